/- Records. -/
import Derived.Test.YtdbhgkbmbbjpdaaGreatDoorNz
import Derived.Lib.AppendZeros
namespace Go.Proofs.YtdbhgkbmbbjpdaaGreatDoor.Chr
variable {lo : Nat}
open Go.ChangeShapes Go.WideShapes Go.ChangeAt Go.RowKit
open Shf (S str)
open Coin (Rd Row Own sz coin got Pur takeV endV CoinSaid)
open Frm (pack err size kind cnt body noItem itemV OneSaid)
set_option maxRecDepth 8000
set_option linter.unusedVariables false
open Shf (Tag Ext Rep M RdN)
def recJ (hU : Nat) (d : VolD) : Nat → List ItD
  | 0 => []
  | j + 1 => recJ hU d j ++ (match d.its[j]? with | some x => (match decide (hU < d.first + j) with | true => [x] | false => []) | none => [])
def recK (hU : Nat) (vols : List VolD) : Nat → List ItD
  | 0 => []
  | k + 1 => recK hU vols k ++ (match vols[k]? with | some d => recJ hU d d.its.length | none => [])
def CD.recs (c : CD) : List ItD := recK c.hU c.vols c.vols.length
theorem flat_len75 (ds : List (ItD × Option Addr × Nat)) : (ds.flatMap itP).length = ds.length * 4 := by
  induction ds with
  | nil => rfl
  | cons x ds ih => rw [List.flatMap_cons, List.length_append, ih]; show 4 + ds.length * 4 = (ds.length + 1) * 4; omega
theorem flat_at75 (ds : List (ItD × Option Addr × Nat)) (k : Nat) (hk : k < ds.length) (i : Nat) (hi : i < 4) : (ds.flatMap itP)[k * 4 + i]? = (itP ds[k])[i]? := by
  induction ds generalizing k with
  | nil => simp at hk
  | cons x ds ih =>
    rw [List.flatMap_cons]
    cases k with
    | zero =>
      rw [List.getElem?_append_left (by show 0 * 4 + i < 4; omega)]
      simp
    | succ k =>
      have hl : (itP x).length = 4 := rfl
      rw [List.getElem?_append_right (by rw [hl]; omega), hl, show (k + 1) * 4 + i - 4 = k * 4 + i by omega, ih k (by simpa using hk)]
      rfl
structure ItAt (w : World) (T : Nat → Tag) (g o : Nat) (x : ItD) (A : Option Addr) (c : Nat) : Prop where
  k0 : w.cell? ⟨g, o, none⟩ = some (.int .u8 (x.k.toNat : Int))
  k1 : w.cell? ⟨g, o + 1, none⟩ = some (.slice A x.p.length c)
  k2 : w.cell? ⟨g, o + 2, none⟩ = some (.int .i64 (x.a : Int))
  k3 : w.cell? ⟨g, o + 3, none⟩ = some (.int .i64 (x.b : Int))
  fz : ∀ j, w.frozen? ⟨g, j, none⟩ = false
  pa : PAt w T A c x.p
theorem LAt.at {w : World} {T : Nat → Tag} {v : Value} {its : List ItD} {gl : Option Nat} (h : LAt w T v its gl) (k : Nat) (hk : k < its.length) : ∃ g off cap A c, v = .slice (some ⟨g, off, none⟩) its.length cap ∧ gl = some g ∧ its.length ≤ cap ∧ ItAt w T g (off + k * 4) its[k] A c := by
  obtain ⟨ds, h1, h2, h3, h4⟩ := h
  have hvl : ds.length = its.length := by rw [← h1, List.length_map]
  have hfl := flat_len75 ds
  have hkv : k < ds.length := by omega
  have hd : ds[k].1 = its[k] := by
    have : (ds.map (·.1))[k]'(by rw [List.length_map]; exact hkv) = its[k] := by simp only [h1]
    simpa using this
  have hc : ∀ i (hi : i < 4), ∃ g off cap, v = .slice (some ⟨g, off, none⟩) its.length cap ∧ gl = some g ∧ w.cell? ⟨g, off + (k * 4 + i), none⟩ = (itP ds[k])[i]? ∧ ∀ j, w.frozen? ⟨g, j, none⟩ = false := fun i hi => by
    obtain ⟨g, off, cap, e1, e2, e3, e4⟩ := h2.cell (k * 4 + i) (by omega)
    refine ⟨g, off, cap, e1, e2, ?_, e4⟩
    rw [e3, ← flat_at75 ds k hkv i hi]
    exact (List.getElem?_eq_getElem _).symm
  obtain ⟨g, off, cap, rfl, rfl, f0, fz⟩ := hc 0 (by decide)
  have hcj : ∀ i (hi : i < 4), w.cell? ⟨g, off + k * 4 + i, none⟩ = (itP ds[k])[i]? := fun i hi => by
    obtain ⟨g', off', cap', e1, _, f, _⟩ := hc i hi
    injection e1 with e1 _ _
    injection e1 with e1
    injection e1 with e1 e2 _
    subst e1 e2
    rw [Nat.add_assoc]
    exact f
  obtain ⟨_, cap', e, hle, _⟩ := h2.form
  injection e with _ _ e
  subst e
  refine ⟨g, off, cap, ds[k].2.1, ds[k].2.2, rfl, rfl, hle, ?_⟩
  rw [← hd]
  exact ⟨hcj 0 (by decide), hcj 1 (by decide), hcj 2 (by decide), hcj 3 (by decide), fz, h4 _ (List.getElem_mem hkv)⟩
def RcL (w : World) (T : Nat → Tag) (v : Value) (l : List ItD) (wr : World) : Prop := ∃ gl, LAt wr T v l gl ∧ (∀ g, gl = some g → w.heap.size ≤ g) ∧ Below w.heap.size w wr
theorem RcL.below {w wr w' : World} {T : Nat → Tag} {v : Value} {l : List ItD} (h : RcL w T v l wr) (B : Below wr.heap.size wr w') : RcL w T v l w' := by
  obtain ⟨gl, h1, h2, h3⟩ := h
  exact ⟨gl, h1.keep (kp_below B T), h2, h3.trans (B.mono h3.size)⟩
theorem RcL.app {w wr : World} {T : Nat → Tag} {v : Value} {l : List ItD} (h : RcL w T v l wr) (hT : ∀ b, w.heap.size ≤ b → T b = .none) (hn : l.length ≤ 1000000) (x : ItD) (A : Option Addr) (n c g6 : Nat) (hnx : n = x.p.length) (hP : PAt wr T A c x.p) (hN : wr.heap[g6]? = some (.cells #[.int .u8 (x.k.toNat : Int), .slice A n c, .int .i64 (x.a : Int), .int .i64 (x.b : Int)] 75 (0, 0))) :
    ∃ v' w', (Builtin.append_ #[58, 58] 58 #[v, .slice (some ⟨g6, 0, none⟩) 1 1]).run Tryz.prog wr = .ok v' w' ∧ RcL w T v' (l ++ [x]) w' ∧ (∀ b, b < wr.heap.size → NotTy wr b 75 → w'.heap[b]? = wr.heap[b]?) ∧ wr.heap.size ≤ w'.heap.size := by
  obtain ⟨gl, h1, h2, h3⟩ := h
  obtain ⟨v', w', gl', hr, L', G, hgl, hgt⟩ := h1.app x A n c hnx hP g6 hN (fun b hb => hT b (Nat.le_trans h3.size hb)) hn
  refine ⟨v', w', hr, ⟨gl', L', fun g e => ?_, h3.grown G h3.size h2⟩, fun b hb hx => G.block b hb (fun e => ?_), G.size⟩
  · rcases hgl with rfl | hgl
    · exact h2 g e
    · exact Nat.le_trans h3.size (hgl g e)
  · obtain ⟨cur, hc⟩ := hgt b e.symm
    exact hx _ hc
set_option maxHeartbeats 4000000 in
theorem recs_any (w : World) (T : Nat → Tag) (p q : Nat) (c : CD) (h : CAt lo w T p q c) (hT : ∀ b, w.heap.size ≤ b → T b = .none) (hs : c.Small) (hn : c.vols.length ≤ 1000) (hi : ∀ d ∈ c.vols, d.its.length ≤ 900) (hp : ∀ d ∈ c.vols, ∀ x ∈ d.its, x.p.length ≤ 1200000) (hrl : ∀ k j d, c.vols[k]? = some d → (recK c.hU c.vols k ++ recJ c.hU d j).length ≤ 1000000) :
    Calls Tryz.prog 37 #[.pointer (some ⟨p, 0, none⟩)] w fun e w' => ∃ v gl, e = .returned (.tuple #[v, .int .u64 ((c.hU + 1 : Nat) : Int)]) ∧ LAt w' T v c.recs gl ∧ (∀ g, gl = some g → w.heap.size ≤ g) ∧ Below w.heap.size w w' := by
  obtain ⟨bA, bc, vv, gv, h⟩ := h
  obtain ⟨vA, vc, rfl⟩ := h.nil
  obtain ⟨hU, hhU⟩ : ∃ x, x = c.hU := ⟨_, rfl⟩
  obtain ⟨n, hnn⟩ : ∃ x, x = c.vols.length := ⟨_, rfl⟩
  have hr := h.row
  unfold cC at hr
  rw [← hhU, ← hnn] at hr
  have hpl := (Array.getElem?_eq_some_iff.1 hr).1
  have HU : Hid (∀ y, Below w.heap.size w y → y.cell? ⟨p, 4, none⟩ = some (.int .u64 (hU : Int))) := fun y hy => (row8 ((hy.block p hpl).trans hr)).2.2.2.2.1
  have HSU : Hid (hU < 1000000000) := by rw [hhU]; exact hs.hU
  have HW1 : Hid (IntKind.u64.wrap ((hU : Int) + 1) = ((hU + 1 : Nat) : Int)) := by show _ = _; rw [IntKind.wrap_u64]; have := HSU.out; omega
  have HV := Lib.hid (And.intro h.vs (And.intro hT (And.intro hs (And.intro hi (And.intro hp (And.intro hrl (And.intro hhU hnn)))))))
  have hn9 : n ≤ 1000 := by omega
  have HN9 := Lib.hid hn9
  have HS0 : Hid (RcL w T (.slice none 0 0) (recK c.hU c.vols 0) w) := ⟨none, LAt.empty w T, (fun g h => by cases h), Below.refl _ _⟩
  unfold CD.recs
  rw [← hnn, ← hhU]
  obtain ⟨p0, p1, p2, p3, p4, p5, p6, p7, -⟩ := row8 hr
  clear h hT hs hn hi hp hrl hhU hnn hr hpl hn9 p0 p1 p2 p3 p4 p5 p7
  go_enter Tryz.func37, Tryz.ntmps37
  go_wp2
  go_loopw [4, 16] (fun v i wr => ∃ k : Nat, i = .int .i64 (k : Int) ∧ k ≤ n ∧ Hid (RcL w T v (recK c.hU c.vols k) wr)) (fun _ i _ => n - (intOf i).toNat)
  case atStart => exact ⟨0, rfl, Nat.zero_le _, HS0⟩
  case round =>
    obtain ⟨k, rfl, hkn, HR⟩ := hrel
    clear HS0 p6
    by_cases hk : k < n
    · have hk' : (k : Int) < n := by omega
      have hkl : k < c.vols.length := by rw [← HV.out.2.2.2.2.2.2.2]; exact hk
      have hRb := HR.out
      obtain ⟨glr, L0, F0, B0⟩ := hRb
      obtain ⟨g, off, cap, lv, gl, hvv, rfl, hle, VA⟩ := HV.out.1.at k hkl
      injection hvv with hv1 hv2 hv3
      subst hv1 hv3
      clear hv2
      obtain ⟨d, hd⟩ : ∃ d, d = c.vols[k] := ⟨_, rfl⟩
      rw [← hd] at VA
      have hdm : d ∈ c.vols := by rw [hd]; exact List.getElem_mem _
      have hdk : c.vols[k]? = some d := by rw [hd]; exact List.getElem?_eq_getElem hkl
      obtain ⟨lA, lc, rfl⟩ : ∃ A cp, lv = .slice A d.its.length cp := by
        obtain ⟨ds, _, k2, _⟩ := VA.la
        obtain ⟨A, cp, e, _⟩ := k2.form
        exact ⟨A, cp, e⟩
      obtain ⟨nl, hnl⟩ : ∃ x, x = d.its.length := ⟨_, rfl⟩
      obtain ⟨no, hno⟩ : ∃ x, x = d.no := ⟨_, rfl⟩
      obtain ⟨fi, hfi⟩ : ∃ x, x = d.first := ⟨_, rfl⟩
      obtain ⟨sz9, hsz⟩ : ∃ x, x = d.size := ⟨_, rfl⟩
      obtain ⟨y0, y1, y2, y3, -, hla⟩ := VA
      rw [← hnl] at y2 hla
      rw [← hno] at y0
      rw [← hfi] at y1
      rw [← hsz] at y3
      have hgw : g < w.heap.size := block_lt_of_cell y0
      have bk := B0.block g hgw
      have y0 := (World.cell?_of_block (a := ⟨g, off + k * 4, none⟩) bk).trans y0
      have y1 := (World.cell?_of_block (a := ⟨g, off + k * 4 + 1, none⟩) bk).trans y1
      have y2 := (World.cell?_of_block (a := ⟨g, off + k * 4 + 2, none⟩) bk).trans y2
      have y3 := (World.cell?_of_block (a := ⟨g, off + k * 4 + 3, none⟩) bk).trans y3
      have hw1 : IntKind.i64.wrap ((k : Int) + 1) = ((k + 1 : Nat) : Int) := by rw [IntKind.wrap_i64]; have := HN9.out; omega
      have HD := Lib.hid (And.intro hdm (And.intro hdk (And.intro hla (And.intro B0 (And.intro hnl (And.intro hfi (show nl ≤ 900 by rw [hnl]; exact HV.out.2.2.2.1 d hdm)))))))
      have HK := Lib.hid (And.intro hk hw1)
      clear L0 F0 B0 hkl hdm hdk hd hle hnl hno hfi hsz hla hkn hk hw1 hgw bk
      go_upto_region 7 with (fail)
      have N6' := heap_alloc_new wr (.cells #[.int .u64 (no : Int), .int .u64 (fi : Int), .slice lA nl lc, .int .i64 (sz9 : Int)] 60)
      have B6' : Below wr.heap.size wr (wr.alloc (.cells #[.int .u64 (no : Int), .int .u64 (fi : Int), .slice lA nl lc, .int .i64 (sz9 : Int)] 60)) := (Below.refl _ _).alloc (Nat.le_refl _) _
      have HR6 := Lib.hid (HR.out.below B6')
      generalize wr.alloc (.cells #[.int .u64 (no : Int), .int .u64 (fi : Int), .slice lA nl lc, .int .i64 (sz9 : Int)] 60) = w3 at *
      obtain ⟨b6, hb6⟩ : ∃ x, x = wr.heap.size := ⟨_, rfl⟩
      rw [← hb6] at N6' ⊢
      have HN6 := Lib.hid N6'
      obtain ⟨q0, q1, q2, q3, qf⟩ := Frm.cells4 N6'
      have HJ0 : Hid (RcL w T u4 (recK c.hU c.vols k ++ recJ c.hU d 0) w3 ∧ w3.heap[b6]? = some (.cells #[.int .u64 (no : Int), .int .u64 (fi : Int), .slice lA nl lc, .int .i64 (sz9 : Int)] 60)) := ⟨by unfold recJ; rw [List.append_nil]; exact HR6.out, HN6.out⟩
      clear y0 y1 y2 y3 N6' B6' hb6
      go_wp2
      go_loopw [4, 23] (fun v i wr => ∃ j : Nat, i = .int .i64 (j : Int) ∧ j ≤ nl ∧ Hid (RcL w T v (recK c.hU c.vols k ++ recJ c.hU d j) wr ∧ wr.heap[b6]? = some (.cells #[.int .u64 (no : Int), .int .u64 (fi : Int), .slice lA nl lc, .int .i64 (sz9 : Int)] 60))) (fun _ i _ => nl - (intOf i).toNat)
      case atStart => exact ⟨0, rfl, Nat.zero_le _, HJ0⟩
      case round =>
        clear HR HR6
        obtain ⟨j, rfl, hjn, HJ⟩ := hrel
        clear HJ0 q0 q1 q2 q3 qf
        by_cases hj : j < nl
        · have hj' : (j : Int) < nl := by omega
          have hjl : j < d.its.length := by rw [← HD.out.2.2.2.2.1]; exact hj
          have hRb := HJ.out.1
          obtain ⟨glr, L0, F0, B0⟩ := hRb
          obtain ⟨g5, o5, cap5, A0, c0, hvv, hgg, hle5, IA⟩ := (HD.out.2.2.1.keep (kp_below B0 T)).at j hjl
          injection hvv with hv1 hv2 hv3
          subst hv1 hv3
          clear hv2
          obtain ⟨x, hx⟩ : ∃ x, x = d.its[j] := ⟨_, rfl⟩
          rw [← hx] at IA
          have hxm : x ∈ d.its := by rw [hx]; exact List.getElem_mem _
          have hxk : d.its[j]? = some x := by rw [hx]; exact List.getElem?_eq_getElem hjl
          obtain ⟨n5, hn5⟩ : ∃ m, m = x.p.length := ⟨_, rfl⟩
          obtain ⟨y0, y1, y2, y3, yf, hpa⟩ := IA
          rw [← hn5] at y1
          have HX := Lib.hid (And.intro hxm (And.intro hxk (And.intro hpa hn5)))
          have hwj : IntKind.i64.wrap ((j : Int) + 1) = ((j + 1 : Nat) : Int) := by rw [IntKind.wrap_i64]; have := HD.out.2.2.2.2.2.2; omega
          obtain ⟨fj, hfj⟩ : ∃ m, m = fi + j := ⟨_, rfl⟩
          have hfl : fi < 1000000000 := by rw [HD.out.2.2.2.2.2.1]; exact (HV.out.2.2.1.v d HD.out.1).2.1
          have HWJ : Hid (IntKind.u64.wrap (j : Int) = (j : Int) ∧ IntKind.u64.wrap ((fi : Int) + (j : Int)) = (fj : Int)) := ⟨by rw [IntKind.wrap_u64]; have := HD.out.2.2.2.2.2.2; omega, by rw [IntKind.wrap_u64]; have := HD.out.2.2.2.2.2.2; omega⟩
          have HFJ : Hid (fj = d.first + j) := by show fj = _; rw [hfj, HD.out.2.2.2.2.2.1]
          have HJJ := Lib.hid (And.intro hj hwj)
          have HL0 := Lib.hid (And.intro L0 (And.intro F0 B0))
          clear hjl hgg hle5 hx hxm hxk hpa hn5 hfj hfl hjn hj hwj L0 F0 B0
          go_upto_region 10 with (fail)
          have N5' := heap_alloc_new wr (.cells #[.int .u8 (x.k.toNat : Int), .slice A0 n5 c0, .int .i64 (x.a : Int), .int .i64 (x.b : Int)] 75)
          have B5' : Below wr.heap.size wr (wr.alloc (.cells #[.int .u8 (x.k.toNat : Int), .slice A0 n5 c0, .int .i64 (x.a : Int), .int .i64 (x.b : Int)] 75)) := (Below.refl _ _).alloc (Nat.le_refl _) _
          generalize wr.alloc (.cells #[.int .u8 (x.k.toNat : Int), .slice A0 n5 c0, .int .i64 (x.a : Int), .int .i64 (x.b : Int)] 75) = w5 at *
          obtain ⟨b5, hb5⟩ : ∃ x, x = wr.heap.size := ⟨_, rfl⟩
          rw [← hb5] at N5' ⊢
          have HN5 := Lib.hid N5'
          have HB5 := Lib.hid (And.intro hb5 B5')
          have HN65 : Hid (w5.heap[b6]? = some (.cells #[.int .u64 (no : Int), .int .u64 (fi : Int), .slice (some ⟨g5, o5, none⟩) nl lc, .int .i64 (sz9 : Int)] 60)) := (B5'.block b6 (Array.getElem?_eq_some_iff.1 HJ.out.2).1).trans HJ.out.2
          clear y0 y1 y2 y3 yf N5' B5' hb5
          have HC5 : Hid (∀ y, Below w5.heap.size w5 y → y.cell? ⟨b6, 1, none⟩ = some (.int .u64 (fi : Int)) ∧ y.cell? ⟨p, 4, none⟩ = some (.int .u64 (hU : Int))) := fun y hy => ⟨(Frm.cells4 ((hy.block b6 (Array.getElem?_eq_some_iff.1 HN65.out).1).trans HN65.out)).2.1, by
            have B := HL0.out.2.2.trans (HB5.out.2.mono HL0.out.2.2.size)
            exact HU.out y (B.trans (hy.mono B.size))⟩
          by_cases hgt : hU < fj
          · have HGT := Lib.hid hgt
            clear hgt
            have HBW := Lib.hid ((Below.refl w5.heap.size w5).drew)
            refine wp_region_noPanic ?_
            refine wp_region_held_drew (S := fun y : World => y.cell? ⟨b6, 1, none⟩ = some (.int .u64 (fi : Int)) ∧ y.cell? ⟨p, 4, none⟩ = some (.int .u64 (hU : Int))) (by kernel_rfl) (HC5.out _ HBW.out) (fun hHeld => ?_)
            generalize w5.drew = wd at *
            refine wpAnyH_take (i := 0) (oi := ⟨some 28, .fieldAddr 60 (.tmp 6) 1, 0, "chronicle.go:150", #[], none⟩) (v := .pointer (some ⟨b6, 1, none⟩)) rfl (by kernel_rfl) (by kernel_rfl) (by kernel_rfl) (fun _ _ _ h => h) (Or.inl ⟨by rfl, fun w hSw => by go_simp⟩) (by assumption) ?_
            try simp only [Act.put, stA, stB, stC]
            refine wpAnyH_take (i := 1) (oi := ⟨some 29, .load 42 (.tmp 28), 42, "chronicle.go:150", #[⟨0, .data⟩], none⟩) (v := .int .u64 (fi : Int)) rfl (by kernel_rfl) (by kernel_rfl) (by kernel_rfl) (fun _ _ _ h => h) (Or.inl ⟨by rfl, fun w hSw => by obtain ⟨z0, z1⟩ := hSw; go_simp⟩) (by assumption) ?_
            try simp only [Act.put, stA, stB, stC]
            refine wpAnyH_take (i := 2) (oi := ⟨some 30, .move (.tmp 7), 3, "chronicle.go:150", #[], none⟩) (v := .int .i64 (j : Int)) rfl (by kernel_rfl) (by kernel_rfl) (by kernel_rfl) (fun _ _ _ h => h) (Or.inl ⟨by rfl, fun w hSw => by go_simp⟩) (by assumption) ?_
            try simp only [Act.put, stA, stB, stC]
            refine wpAnyH_take (i := 3) (oi := ⟨some 31, .convert 3 42 (.tmp 30), 42, "chronicle.go:150", #[⟨2, .data⟩], none⟩) (v := .int .u64 (j : Int)) rfl (by kernel_rfl) (by kernel_rfl) (by kernel_rfl) (fun _ _ _ h => h) (Or.inl ⟨by rfl, fun w hSw => by have hz := HWJ.out.1; go_simp⟩) (by assumption) ?_
            try simp only [Act.put, stA, stB, stC]
            refine wpAnyH_take (i := 4) (oi := ⟨some 32, .binOp .add 42 (.tmp 29) (.tmp 31) 42, 42, "chronicle.go:150", #[⟨1, .data⟩, ⟨3, .data⟩], none⟩) (v := .int .u64 (fj : Int)) rfl (by kernel_rfl) (by kernel_rfl) (by kernel_rfl) (fun _ _ _ h => h) (Or.inl ⟨by rfl, fun w hSw => by have hz := HWJ.out.2; go_simp⟩) (by assumption) ?_
            try simp only [Act.put, stA, stB, stC]
            refine wpAnyH_take (i := 5) (oi := ⟨some 33, .move (.tmp 0), 26, "chronicle.go:150", #[], none⟩) (v := .pointer (some ⟨p, 0, none⟩)) rfl (by kernel_rfl) (by kernel_rfl) (by kernel_rfl) (fun _ _ _ h => h) (Or.inl ⟨by rfl, fun w hSw => by go_simp⟩) (by assumption) ?_
            try simp only [Act.put, stA, stB, stC]
            refine wpAnyH_take (i := 6) (oi := ⟨some 34, .nilCheck (.tmp 33), 0, "chronicle.go:150", #[⟨5, .data⟩], none⟩) (v := .pointer (some ⟨p, 0, none⟩)) rfl (by kernel_rfl) (by kernel_rfl) (by kernel_rfl) (fun _ _ _ h => h) (Or.inl ⟨by rfl, fun w hSw => by go_simp⟩) (by assumption) ?_
            try simp only [Act.put, stA, stB, stC]
            refine wpAnyH_take (i := 7) (oi := ⟨some 35, .fieldAddr 82 (.tmp 34) 2, 0, "chronicle.go:150", #[⟨6, .data⟩], none⟩) (v := .pointer (some ⟨p, 2, none⟩)) rfl (by kernel_rfl) (by kernel_rfl) (by kernel_rfl) (fun _ _ _ h => h) (Or.inl ⟨by rfl, fun w hSw => by go_simp⟩) (by assumption) ?_
            try simp only [Act.put, stA, stB, stC]
            refine wpAnyH_take (i := 8) (oi := ⟨some 36, .fieldAddr 45 (.tmp 35) 2, 0, "chronicle.go:150", #[⟨7, .data⟩], none⟩) (v := .pointer (some ⟨p, 4, none⟩)) rfl (by kernel_rfl) (by kernel_rfl) (by kernel_rfl) (fun _ _ _ h => h) (Or.inl ⟨by rfl, fun w hSw => by go_simp⟩) (by assumption) ?_
            try simp only [Act.put, stA, stB, stC]
            refine wpAnyH_take (i := 9) (oi := ⟨some 37, .load 42 (.tmp 36), 42, "chronicle.go:150", #[⟨8, .data⟩], none⟩) (v := .int .u64 (hU : Int)) rfl (by kernel_rfl) (by kernel_rfl) (by kernel_rfl) (fun _ _ _ h => h) (Or.inl ⟨by rfl, fun w hSw => by obtain ⟨z0, z1⟩ := hSw; go_simp⟩) (by assumption) ?_
            try simp only [Act.put, stA, stB, stC]
            refine wpAnyH_take (i := 10) (oi := ⟨some 38, .binOp .gtr 42 (.tmp 32) (.tmp 37) 42, 4, "chronicle.go:150", #[⟨4, .data⟩, ⟨9, .data⟩], none⟩) (v := .bool true) rfl (by kernel_rfl) (by kernel_rfl) (by kernel_rfl) (fun _ _ _ h => h) (Or.inl ⟨by rfl, fun w hSw => by have hz := HGT.out; go_simp⟩) (by assumption) ?_
            try simp only [Act.put, stA, stB, stC]
            refine wpAnyH_done (by kernel_rfl) ?_ _
            try unfold NoPanic
            have HBr : Hid (Below wr.heap.size wr wd) := HB5.out.2.trans (HBW.out.mono HB5.out.2.size)
            have HNd : Hid (wd.heap[b5]? = some (.cells #[.int .u8 (x.k.toNat : Int), .slice A0 n5 c0, .int .i64 (x.a : Int), .int .i64 (x.b : Int)] 75)) := (HBW.out.block b5 (Array.getElem?_eq_some_iff.1 HN5.out).1).trans HN5.out
            have pd := HX.out.2.2.1.below HBr.out
            have c54 := clone_any wd A0 n5 c0 x.p HX.out.2.2.2 (Nat.le_trans (HV.out.2.2.2.2.1 d HD.out.1 x HX.out.1) (by decide)) (pd.rd) pd.1
            obtain ⟨y0, y1, y2, y3, yf⟩ := Frm.cells4 HNd.out
            clear pd hHeld
            go_upto_region 12 with (go_at_call 54; (with_reducible refine c54.mono ?_); rintro e w7 ⟨A5, c5, rfl, O7, B7⟩; have HO7 := Lib.hid (And.intro O7 B7); have N7' := (B7.block b5 (Array.getElem?_eq_some_iff.1 HNd.out).1).trans HNd.out; clear y0 y1 y2 y3 yf; obtain ⟨y0, y1, y2, y3, yf⟩ := Frm.cells4 N7'; clear O7 B7 c54)
            have Br7 := HBr.out.trans (HO7.out.2.mono HBr.out.size)
            have Bw7 := HL0.out.2.2.trans (Br7.mono HL0.out.2.2.size)
            have G8 := Shf.grown_set w7 b5 1 (.slice A5 n5 c5)
            have N8' := heap_setCell_same w7 b5 1 _ 75 (.slice A5 n5 c5) N7'
            have hb5w : w.heap.size ≤ b5 := by rw [HB5.out.1]; exact HL0.out.2.2.size
            have hne : glr ≠ some b5 := fun e => by
              obtain ⟨ds, _, j2, _⟩ := HL0.out.1
              have := (j2.lt b5 e).1
              have := HB5.out.1
              omega
            have R8 : RcL w T u4 (recK c.hU c.vols k ++ recJ c.hU d j) (w7.setCell ⟨b5, 1, none⟩ (.slice A5 n5 c5)) := ⟨glr, (HL0.out.1.keep (kp_below Br7 T)).grown G8 (notTy N7' (by decide)) hne, HL0.out.2.1, Coin.below_grown Bw7 G8 hb5w⟩
            have P8 : PAt (w7.setCell ⟨b5, 1, none⟩ (.slice A5 n5 c5)) T A5 c5 x.p := (pat_own HO7.out.1 (fun b hb => HV.out.2.1 b (Nat.le_trans (HL0.out.2.2.trans (HBr.out.mono HL0.out.2.2.size)).size hb)) HX.out.2.2.2).grown G8 (notTy N7' (by decide))
            have N68 : (w7.setCell ⟨b5, 1, none⟩ (.slice A5 n5 c5)).heap[b6]? = some (.cells #[.int .u64 (no : Int), .int .u64 (fi : Int), .slice (some ⟨g5, o5, none⟩) nl lc, .int .i64 (sz9 : Int)] 60) := (G8.block b6 (Nat.lt_of_lt_of_le (Array.getElem?_eq_some_iff.1 HJ.out.2).1 Br7.size) (fun e => by
              injection e with e
              have h1 := (Array.getElem?_eq_some_iff.1 HJ.out.2).1
              have h2 := HB5.out.1
              omega)).trans ((Br7.block b6 (Array.getElem?_eq_some_iff.1 HJ.out.2).1).trans HJ.out.2)
            clear y0 y1 y2 y3 yf Br7 Bw7 G8 hb5w hne N7'
            generalize w7.setCell ⟨b5, 1, none⟩ (.slice A5 n5 c5) = w8 at *
            have N8 : w8.heap[b5]? = some (.cells #[.int .u8 (x.k.toNat : Int), .slice A5 n5 c5, .int .i64 (x.a : Int), .int .i64 (x.b : Int)] 75) := N8'
            obtain ⟨y0, y1, y2, y3, yf⟩ := Frm.cells4 N8
            have B9 : Below w8.heap.size w8 (w8.alloc (.cells #[.int .u8 (x.k.toNat : Int), .slice A5 n5 c5, .int .i64 (x.a : Int), .int .i64 (x.b : Int)] 75)) := (Below.refl _ _).alloc (Nat.le_refl _) _
            have N68' := (B9.block b6 (Array.getElem?_eq_some_iff.1 N68).1).trans N68
            obtain ⟨v', w', hrun, R', F', S'⟩ := (R8.below B9).app HV.out.2.1 (HV.out.2.2.2.2.2.1 k j d HD.out.2.1) x A5 n5 c5 w8.heap.size HX.out.2.2.2 (P8.below B9) (heap_alloc_new _ _)
            have HR9 : Hid (RcL w T v' (recK c.hU c.vols k ++ recJ c.hU d (j + 1)) w' ∧ w'.heap[b6]? = some (.cells #[.int .u64 (no : Int), .int .u64 (fi : Int), .slice (some ⟨g5, o5, none⟩) nl lc, .int .i64 (sz9 : Int)] 60)) := ⟨by
              have e : recJ c.hU d (j + 1) = recJ c.hU d j ++ [x] := by
                show recJ c.hU d j ++ _ = _
                rw [HX.out.2.1, show decide (c.hU < d.first + j) = true from decide_eq_true (by rw [← HFJ.out, ← HV.out.2.2.2.2.2.2.1]; exact HGT.out)]
              rw [e, ← List.append_assoc]
              exact R', (F' b6 (Array.getElem?_eq_some_iff.1 N68').1 (notTy N68' (by decide))).trans N68'⟩
            clear R8 P8 N68 B9 N68' R' F' S' N8' N8
            have hw9 := HJJ.out.2
            go_wp2_with (at_builtin; refine Lib.wpList_append_run _ rfl (.tmp 43) (.tmp 45) 58 58 rfl _ _ rfl rfl _ _ hrun ?_; clear hrun)
            go_roundw
            case rel => exact ⟨j + 1, rfl, HJJ.out.1, HR9⟩
            case measure => have := HJJ.out.1; simp [intOf]; omega
          · have HGT : Hid (fj ≤ hU) := by show fj ≤ hU; omega
            have HNG : Hid (¬ c.hU < d.first + j) := by show ¬ _; rw [← HFJ.out, ← HV.out.2.2.2.2.2.2.1]; exact hgt
            clear hgt
            have HBW := Lib.hid ((Below.refl w5.heap.size w5).drew)
            refine wp_region_noPanic ?_
            refine wp_region_held_drew (S := fun y : World => y.cell? ⟨b6, 1, none⟩ = some (.int .u64 (fi : Int)) ∧ y.cell? ⟨p, 4, none⟩ = some (.int .u64 (hU : Int))) (by kernel_rfl) (HC5.out _ HBW.out) (fun hHeld => ?_)
            generalize w5.drew = wd at *
            refine wpAnyH_take (i := 0) (oi := ⟨some 28, .fieldAddr 60 (.tmp 6) 1, 0, "chronicle.go:150", #[], none⟩) (v := .pointer (some ⟨b6, 1, none⟩)) rfl (by kernel_rfl) (by kernel_rfl) (by kernel_rfl) (fun _ _ _ h => h) (Or.inl ⟨by rfl, fun w hSw => by go_simp⟩) (by assumption) ?_
            try simp only [Act.put, stA, stB, stC]
            refine wpAnyH_take (i := 1) (oi := ⟨some 29, .load 42 (.tmp 28), 42, "chronicle.go:150", #[⟨0, .data⟩], none⟩) (v := .int .u64 (fi : Int)) rfl (by kernel_rfl) (by kernel_rfl) (by kernel_rfl) (fun _ _ _ h => h) (Or.inl ⟨by rfl, fun w hSw => by obtain ⟨z0, z1⟩ := hSw; go_simp⟩) (by assumption) ?_
            try simp only [Act.put, stA, stB, stC]
            refine wpAnyH_take (i := 2) (oi := ⟨some 30, .move (.tmp 7), 3, "chronicle.go:150", #[], none⟩) (v := .int .i64 (j : Int)) rfl (by kernel_rfl) (by kernel_rfl) (by kernel_rfl) (fun _ _ _ h => h) (Or.inl ⟨by rfl, fun w hSw => by go_simp⟩) (by assumption) ?_
            try simp only [Act.put, stA, stB, stC]
            refine wpAnyH_take (i := 3) (oi := ⟨some 31, .convert 3 42 (.tmp 30), 42, "chronicle.go:150", #[⟨2, .data⟩], none⟩) (v := .int .u64 (j : Int)) rfl (by kernel_rfl) (by kernel_rfl) (by kernel_rfl) (fun _ _ _ h => h) (Or.inl ⟨by rfl, fun w hSw => by have hz := HWJ.out.1; go_simp⟩) (by assumption) ?_
            try simp only [Act.put, stA, stB, stC]
            refine wpAnyH_take (i := 4) (oi := ⟨some 32, .binOp .add 42 (.tmp 29) (.tmp 31) 42, 42, "chronicle.go:150", #[⟨1, .data⟩, ⟨3, .data⟩], none⟩) (v := .int .u64 (fj : Int)) rfl (by kernel_rfl) (by kernel_rfl) (by kernel_rfl) (fun _ _ _ h => h) (Or.inl ⟨by rfl, fun w hSw => by have hz := HWJ.out.2; go_simp⟩) (by assumption) ?_
            try simp only [Act.put, stA, stB, stC]
            refine wpAnyH_take (i := 5) (oi := ⟨some 33, .move (.tmp 0), 26, "chronicle.go:150", #[], none⟩) (v := .pointer (some ⟨p, 0, none⟩)) rfl (by kernel_rfl) (by kernel_rfl) (by kernel_rfl) (fun _ _ _ h => h) (Or.inl ⟨by rfl, fun w hSw => by go_simp⟩) (by assumption) ?_
            try simp only [Act.put, stA, stB, stC]
            refine wpAnyH_take (i := 6) (oi := ⟨some 34, .nilCheck (.tmp 33), 0, "chronicle.go:150", #[⟨5, .data⟩], none⟩) (v := .pointer (some ⟨p, 0, none⟩)) rfl (by kernel_rfl) (by kernel_rfl) (by kernel_rfl) (fun _ _ _ h => h) (Or.inl ⟨by rfl, fun w hSw => by go_simp⟩) (by assumption) ?_
            try simp only [Act.put, stA, stB, stC]
            refine wpAnyH_take (i := 7) (oi := ⟨some 35, .fieldAddr 82 (.tmp 34) 2, 0, "chronicle.go:150", #[⟨6, .data⟩], none⟩) (v := .pointer (some ⟨p, 2, none⟩)) rfl (by kernel_rfl) (by kernel_rfl) (by kernel_rfl) (fun _ _ _ h => h) (Or.inl ⟨by rfl, fun w hSw => by go_simp⟩) (by assumption) ?_
            try simp only [Act.put, stA, stB, stC]
            refine wpAnyH_take (i := 8) (oi := ⟨some 36, .fieldAddr 45 (.tmp 35) 2, 0, "chronicle.go:150", #[⟨7, .data⟩], none⟩) (v := .pointer (some ⟨p, 4, none⟩)) rfl (by kernel_rfl) (by kernel_rfl) (by kernel_rfl) (fun _ _ _ h => h) (Or.inl ⟨by rfl, fun w hSw => by go_simp⟩) (by assumption) ?_
            try simp only [Act.put, stA, stB, stC]
            refine wpAnyH_take (i := 9) (oi := ⟨some 37, .load 42 (.tmp 36), 42, "chronicle.go:150", #[⟨8, .data⟩], none⟩) (v := .int .u64 (hU : Int)) rfl (by kernel_rfl) (by kernel_rfl) (by kernel_rfl) (fun _ _ _ h => h) (Or.inl ⟨by rfl, fun w hSw => by obtain ⟨z0, z1⟩ := hSw; go_simp⟩) (by assumption) ?_
            try simp only [Act.put, stA, stB, stC]
            refine wpAnyH_take (i := 10) (oi := ⟨some 38, .binOp .gtr 42 (.tmp 32) (.tmp 37) 42, 4, "chronicle.go:150", #[⟨4, .data⟩, ⟨9, .data⟩], none⟩) (v := .bool false) rfl (by kernel_rfl) (by kernel_rfl) (by kernel_rfl) (fun _ _ _ h => h) (Or.inl ⟨by rfl, fun w hSw => by have hz := HGT.out; go_simp⟩) (by assumption) ?_
            try simp only [Act.put, stA, stB, stC]
            refine wpAnyH_done (by kernel_rfl) ?_ _
            try unfold NoPanic
            have HBr : Hid (Below wr.heap.size wr wd) := HB5.out.2.trans (HBW.out.mono HB5.out.2.size)
            have HR9 : Hid (RcL w T u4 (recK c.hU c.vols k ++ recJ c.hU d (j + 1)) wd ∧ wd.heap[b6]? = some (.cells #[.int .u64 (no : Int), .int .u64 (fi : Int), .slice (some ⟨g5, o5, none⟩) nl lc, .int .i64 (sz9 : Int)] 60)) := ⟨by
              have e : recJ c.hU d (j + 1) = recJ c.hU d j := by
                show recJ c.hU d j ++ _ = _
                rw [HX.out.2.1, show decide (c.hU < d.first + j) = false from decide_eq_false HNG.out, List.append_nil]
              rw [e]
              exact HJ.out.1.below HBr.out, (HBr.out.block b6 (Array.getElem?_eq_some_iff.1 HJ.out.2).1).trans HJ.out.2⟩
            have hw9 := HJJ.out.2
            clear hHeld
            go_wp2
            go_roundw
            case rel => exact ⟨j + 1, rfl, HJJ.out.1, HR9⟩
            case measure => have := HJJ.out.1; simp [intOf]; omega
        · have hj' : ¬ (j : Int) < nl := by omega
          have hjn' : j = nl := by omega
          have HR9 : Hid (RcL w T u4 (recK c.hU c.vols (k + 1)) wr) := by
            have e : recK c.hU c.vols (k + 1) = recK c.hU c.vols k ++ recJ c.hU d j := by
              show recK c.hU c.vols k ++ _ = _
              rw [HD.out.2.1, hjn', HD.out.2.2.2.2.1]
            show RcL _ _ _ _ _
            rw [e]
            exact HJ.out.1
          have hw9 := HK.out.2
          clear hjn' hjn hj
          go_wp2
          go_roundw
          case rel => exact ⟨k + 1, rfl, HK.out.1, HR9⟩
          case measure => have := HK.out.1; simp [intOf]; omega
    · have hk' : ¬ (k : Int) < n := by omega
      obtain rfl : k = n := by omega
      have hRb := HR.out
      obtain ⟨glr, L0, F0, B0⟩ := hRb
      have HRX := Lib.hid (And.intro L0 (And.intro F0 B0))
      clear L0 F0 B0 hk hkn
      go_upto_region 15 with (fail)
      have HBW := Lib.hid ((Below.refl wr.heap.size wr).drew)
      refine wp_region_noPanic ?_
      refine wp_region_held_drew (S := fun y : World => y.cell? ⟨p, 4, none⟩ = some (.int .u64 (hU : Int))) (by kernel_rfl) (HU.out _ (HRX.out.2.2.trans (HBW.out.mono HRX.out.2.2.size))) (fun hHeld => ?_)
      generalize wr.drew = wd at *
      refine wpAnyH_take (i := 0) (oi := ⟨some 49, .move (.tmp 4), 58, "chronicle.go:156", #[], none⟩) (v := u4) rfl (by kernel_rfl) (by kernel_rfl) (by kernel_rfl) (fun _ _ _ h => h) (Or.inl ⟨by rfl, fun w hSw => by go_simp⟩) (by assumption) ?_
      try simp only [Act.put, stA, stB, stC]
      refine wpAnyH_take (i := 1) (oi := ⟨some 50, .move (.tmp 0), 26, "chronicle.go:156", #[⟨7, .gcOnly .lateStores⟩], none⟩) (v := .pointer (some ⟨p, 0, none⟩)) rfl (by kernel_rfl) (by kernel_rfl) (by kernel_rfl) (fun _ _ _ h => h) (Or.inl ⟨by rfl, fun w hSw => by go_simp⟩) (by assumption) ?_
      try simp only [Act.put, stA, stB, stC]
      refine wpAnyH_take (i := 2) (oi := ⟨some 51, .nilCheck (.tmp 50), 0, "chronicle.go:156", #[⟨1, .data⟩, ⟨7, .gcOnly .lateStores⟩], none⟩) (v := .pointer (some ⟨p, 0, none⟩)) rfl (by kernel_rfl) (by kernel_rfl) (by kernel_rfl) (fun _ _ _ h => h) (Or.inl ⟨by rfl, fun w hSw => by go_simp⟩) (by assumption) ?_
      try simp only [Act.put, stA, stB, stC]
      refine wpAnyH_take (i := 3) (oi := ⟨some 52, .fieldAddr 82 (.tmp 51) 2, 0, "chronicle.go:156", #[⟨2, .data⟩, ⟨7, .gcOnly .lateStores⟩], none⟩) (v := .pointer (some ⟨p, 2, none⟩)) rfl (by kernel_rfl) (by kernel_rfl) (by kernel_rfl) (fun _ _ _ h => h) (Or.inl ⟨by rfl, fun w hSw => by go_simp⟩) (by assumption) ?_
      try simp only [Act.put, stA, stB, stC]
      refine wpAnyH_take (i := 4) (oi := ⟨some 53, .fieldAddr 45 (.tmp 52) 2, 0, "chronicle.go:156", #[⟨3, .data⟩, ⟨7, .gcOnly .lateStores⟩], none⟩) (v := .pointer (some ⟨p, 4, none⟩)) rfl (by kernel_rfl) (by kernel_rfl) (by kernel_rfl) (fun _ _ _ h => h) (Or.inl ⟨by rfl, fun w hSw => by go_simp⟩) (by assumption) ?_
      try simp only [Act.put, stA, stB, stC]
      refine wpAnyH_take (i := 5) (oi := ⟨some 54, .load 42 (.tmp 53), 42, "chronicle.go:156", #[⟨4, .data⟩, ⟨7, .gcOnly .lateStores⟩], none⟩) (v := .int .u64 (hU : Int)) rfl (by kernel_rfl) (by kernel_rfl) (by kernel_rfl) (fun _ _ _ h => h) (Or.inl ⟨by rfl, fun w hSw => by go_simp⟩) (by assumption) ?_
      try simp only [Act.put, stA, stB, stC]
      refine wpAnyH_take (i := 6) (oi := ⟨some 55, .binOp .add 42 (.tmp 54) (.const (.int .u64 1)) 42, 42, "chronicle.go:156", #[⟨5, .data⟩, ⟨7, .gcOnly .lateStores⟩], none⟩) (v := .int .u64 ((hU + 1 : Nat) : Int)) rfl (by kernel_rfl) (by kernel_rfl) (by kernel_rfl) (fun _ _ _ h => h) (Or.inl ⟨by rfl, fun w hSw => by have hz := HW1.out; go_simp⟩) (by assumption) ?_
      try simp only [Act.put, stA, stB, stC]
      refine wpAnyH_take (i := 7) (oi := ⟨some 2, .assign (.tmp 49), 58, "chronicle.go:156", #[⟨0, .data⟩, ⟨0, .phase⟩, ⟨1, .textOnly .lateStores⟩, ⟨2, .textOnly .lateStores⟩, ⟨3, .textOnly .lateStores⟩, ⟨4, .textOnly .lateStores⟩, ⟨5, .textOnly .lateStores⟩, ⟨6, .textOnly .lateStores⟩], none⟩) (v := u4) rfl (by kernel_rfl) (by kernel_rfl) (by kernel_rfl) (fun _ _ _ h => h) (Or.inl ⟨by rfl, fun w hSw => by go_simp⟩) (by assumption) ?_
      try simp only [Act.put, stA, stB, stC]
      refine wpAnyH_take (i := 8) (oi := ⟨some 3, .assign (.tmp 55), 42, "chronicle.go:156", #[⟨6, .data⟩, ⟨7, .chain⟩, ⟨0, .phase⟩, ⟨1, .phase⟩, ⟨2, .phase⟩, ⟨3, .phase⟩, ⟨4, .phase⟩, ⟨5, .phase⟩, ⟨6, .phase⟩, ⟨7, .phase⟩], none⟩) (v := .int .u64 ((hU + 1 : Nat) : Int)) rfl (by kernel_rfl) (by kernel_rfl) (by kernel_rfl) (fun _ _ _ h => h) (Or.inl ⟨by rfl, fun w hSw => by go_simp⟩) (by assumption) ?_
      try simp only [Act.put, stA, stB, stC]
      refine wpAnyH_done (by kernel_rfl) ?_ _
      try unfold NoPanic
      go_wp2
      go_ret2
      exact ⟨u4, glr, rfl, by rw [HV.out.2.2.2.2.2.2.1]; exact HRX.out.1.keep (kp_below HBW.out T), HRX.out.2.1, HRX.out.2.2.trans (HBW.out.mono HRX.out.2.2.size)⟩
end Go.Proofs.YtdbhgkbmbbjpdaaGreatDoor.Chr
