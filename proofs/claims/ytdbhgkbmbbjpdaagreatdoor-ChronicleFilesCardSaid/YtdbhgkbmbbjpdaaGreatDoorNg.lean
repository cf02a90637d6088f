/- The volume that some bytes are. -/
import Derived.Test.YtdbhgkbmbbjpdaaGreatDoorNf
import Derived.Deep.DeepCutAuto
import Derived.Deep.RegionHeld3
import Derived.OwnWalk
namespace Go.Proofs.YtdbhgkbmbbjpdaaGreatDoor.Chr
open Go.ChangeShapes Go.WideShapes Go.ChangeAt Go.RowKit
open Shf (S str)
open Coin (Rd Row Own sz coin got Pur takeV endV CoinSaid)
open Frm (pack err size kind cnt body noItem itemV OneSaid)
set_option maxRecDepth 8000
open Shf (Tag Ext)
def itAt (l : S) (a : Nat) : ItD := ⟨kind (l.drop a), body (l.drop a), a, a + size (l.drop a)⟩
def titled (t : S) : Bool := decide (endV (stP t 2).1 (stP t 2).2 = 0)
def VolIs (l : S) (d : VolD) : Prop := ∃ ps b er, Frm.chain l 0 (0 :: ps) b ∧ Frm.ends l b er ∧ (kind l).toNat = 84 ∧ titled (body l) = true ∧ d = ⟨valP (body l) 0, valP (body l) 1, ps.map (itAt l), b⟩
def VolSaid (w : World) (T : Nat → Tag) (l : S) (e : Ending) (w' : World) : Prop :=
  ∃ (d : VolD) (A : Option Addr) (n c : Nat) (ok : Bool), e = .returned (.tuple #[.agg #[.int .u64 (d.no : Int), .int .u64 (d.first : Int), .slice A n c, .int .i64 (d.size : Int)], .bool ok]) ∧ Below w.heap.size w w' ∧ d.no < 18446744073709551616 ∧ d.first < 18446744073709551616 ∧ d.size ≤ l.length ∧
    (ok = true → VolIs l d ∧ 0 < d.first ∧ ∃ gl, LAt w' T (.slice A n c) d.its gl ∧ ∀ g, gl = some g → w.heap.size ≤ g) ∧ (ok = false → ∀ d', VolIs l d' → d'.first = 0)
theorem OwnO.tail {w : World} {n : Nat} {A : Option Addr} {c : Nat} {x xs : List Value} {gl : Option Nat} (h : OwnO w 75 4 (.slice A (n + 1) c) (n + 1) (x ++ xs) gl) (hx : x.length = 4) :
    ∃ A', (∀ W, (Instr.slice 58 (.slice A (n + 1) c) (some (.int .i64 1)) none none).run Tryz.prog W = .ok (.slice A' n (c - 1)) W) ∧ (∃ gl', OwnO w 75 4 (.slice A' n (c - 1)) n xs gl' ∧ (gl' = none ∨ gl' = gl)) := by
  obtain ⟨h0, A0, cap, e, h2, h3, h4, h5, h6⟩ := h
  injection e with e1 e2 e3
  subst e1 e3
  refine ⟨if c = 1 then A else A.map (·.add 4), fun W => ?_, ?_⟩
  · have h := run_slice_l (P := Tryz.prog) (w := W) 58 A (n + 1) c Tryz.underlying58 .i64 1 (by decide) (by omega)
    rw [h]
    have hs : (sizeOf (Tryz.prog.elem 58)).run Tryz.prog W = .ok 4 W := by
      have e1 : Tryz.prog.elem 58 = 75 := by kernel_rfl
      rw [e1]
      have e2 : (Tryz.prog.info? 75).map (·.size) = some 4 := by kernel_rfl
      cases hi : Tryz.prog.info? 75 with
      | none => rw [hi] at e2; cases e2
      | some i => rw [hi] at e2; injection e2 with e2; simp [sizeOf, typeInfo, hi, e2]
    rw [hs]
    simp [Result.andThen, sliced]
  · have hxl : xs.length = n * 4 := by rw [List.length_append, hx] at h0; omega
    by_cases hc : c = 1
    · rw [if_pos hc]
      obtain rfl : n = 0 := by omega
      exact ⟨none, ⟨hxl, A, c - 1, rfl, by omega, by omega, fun _ => by omega, fun _ => rfl, fun h => by omega⟩, Or.inl rfl⟩
    · rw [if_neg hc]
      obtain ⟨g, off, cur, rfl, k2, k3, k4, k5⟩ := h6 (by omega)
      refine ⟨gl, ⟨hxl, _, c - 1, rfl, by omega, by omega, (fun h => by cases h), fun h => by omega, fun _ => ⟨g, off + 4, cur, ?_, k2, k3, by omega, ?_⟩⟩, Or.inr rfl⟩
      · simp [Addr.add_lit]
      · have e1 : ((cur.toList.drop off).take ((n + 1) * 4)).drop 4 = xs := by rw [k5, ← hx]; exact List.drop_left
        rw [← e1, List.drop_take, List.drop_drop]
        congr 1
        omega
theorem valP_lt (l : S) (j : Nat) : valP l j < 18446744073709551616 := by
  unfold valP Coin.takeV
  split
  · exact (by decide : 0 < 18446744073709551616)
  · split
    · exact (by decide : 0 < 18446744073709551616)
    · split
      · exact (by decide : 0 < 18446744073709551616)
      · exact (Coin.got_lt _).1
theorem lat_of {w w1 w2 w5 : World} {T : Nat → Tag} {l : S} {v : Value} {n b0 bE : Nat} {xs : List (Nat × Nat)} {gl : Option Nat} (h : OwnO w2 75 4 v n (xs.flatMap (Frm.itemC l)) gl) (hc : Frm.chain l b0 (xs.map (·.1)) bE) (hr : ∀ x ∈ xs, Row w2 x.2 (body (l.drop x.1)) ∧ w1.heap.size ≤ x.2)
    (hg : ∀ g, gl = some g → w1.heap.size ≤ g) (h1 : w.heap.size < w1.heap.size) (hk : ∀ x, x < w2.heap.size → x ≠ w.heap.size → w5.heap[x]? = w2.heap[x]?) (hT : ∀ b, w.heap.size ≤ b → T b = .none) :
    LAt w5 T v ((xs.map (·.1)).map (itAt l)) gl := by
  have hlen : n = xs.length := by
    have := h.1
    have e : (xs.flatMap (Frm.itemC l)).length = xs.length * 4 := by
      clear h hc hr this
      induction xs with
      | nil => rfl
      | cons x xs ih => rw [List.flatMap_cons, List.length_append, ih]; show 4 + xs.length * 4 = (xs.length + 1) * 4; omega
    omega
  have herr : ∀ (ys : List (Nat × Nat)) a, Frm.chain l a (ys.map (·.1)) bE → ∀ x ∈ ys, err (l.drop x.1) = 0 := by
    intro ys
    induction ys with
    | nil => intro a _ x hx; cases hx
    | cons y ys ih =>
      intro a hch x hx
      obtain ⟨e, _, h3, h4⟩ := hch
      have e : y.1 = a := e
      rcases List.mem_cons.1 hx with rfl | hx
      · rw [e]; exact h3
      · exact ih _ h4 x hx
  refine ⟨xs.map fun x => (itAt l x.1, some ⟨x.2, 0, none⟩, cnt (l.drop x.1)), ?_, ?_, fun g e => hT g (by have := hg g e; omega), ?_⟩
  · rw [List.map_map, List.map_map]; rfl
  · have e : (xs.map fun x => (itAt l x.1, some (⟨x.2, 0, none⟩ : Addr), cnt (l.drop x.1))).flatMap itP = xs.flatMap (Frm.itemC l) := by
      rw [List.flatMap_map]
      simp only [List.flatMap_def]
      congr 1
      refine List.map_congr_left fun x hx => ?_
      have hb := body_len (l.drop x.1) (herr xs b0 hc x hx)
      show [_, Value.slice _ (body (l.drop x.1)).length _, _, _] = _
      rw [hb]
      rfl
    rw [e, List.length_map, List.length_map, ← hlen]
    exact h.keep fun g e => hk g (h.lt g e).1 (fun e2 => by have := hg g e; omega)
  · intro x hx
    obtain ⟨y, hy, rfl⟩ := List.mem_map.1 hx
    obtain ⟨r1, r2⟩ := hr y hy
    have hb := body_len (l.drop y.1) (herr xs b0 hc y hy)
    refine ⟨(fun h => by cases h), by show (body (l.drop y.1)).length ≤ _; rw [hb]; exact Nat.le_refl _, fun _ => ⟨y.2, 0, _, rfl, (hk y.2 r1.lt (by omega)).trans r1, hT _ (by omega), fun j hj => ?_⟩⟩
    have hj : j < (body (l.drop y.1)).length := hj
    simp [hj]
    rfl
theorem nob4 (x y : Int) (A : Option Addr) (n c : Nat) {z : Int} : NoB #[.int .u64 x, .int .u64 y, .slice A n c, .int .i64 z] := fun i b e => by
  rcases i with _ | _ | _ | _ | i
  · cases e
  · cases e
  · cases e
  · cases e
  · simp at e
theorem res60 {fn : Func} {p u : Tmp} (h : fn.results = #[.cell p 60, .tmp u]) (tmps : Array Value) (w : World) (g : Nat) (t : TypeId) (cs : Array Value) (fr : Nat × Nat)
    (hp : tmps.getD p undef = .pointer (some ⟨g, 0, none⟩)) (hg : w.heap[g]? = some (.cells cs t fr)) (h4 : cs.size = 4) :
    (results fn tmps).run Tryz.prog w = .ok (.tuple #[.agg cs, tmps.getD u undef]) w := by
  have size60 : (Tryz.prog.info? 60).map (·.size) = some 4 := by kernel_rfl
  have isrow60 : (match (Tryz.prog.underlying 60) with | some (.struct _) | some (.array _ _) => true | _ => false) = true := by kernel_rfl
  obtain ⟨d, hu, hd⟩ : ∃ d, Tryz.prog.underlying 60 = some d ∧ (match d with | .struct _ | .array _ _ => true | _ => false) = true := by
    have h := isrow60
    cases e : Tryz.prog.underlying 60 with
    | none => rw [e] at h; cases h
    | some d => rw [e] at h; exact ⟨d, rfl, by cases d <;> first | rfl | cases h⟩
  rw [results_cell_tmp h, hp]
  simp [asAddr, Result.andThen, run_loadVar_row w g t 60 cs fr d hg hu (by cases d <;> first | rfl | cases hd) (by rw [size60, h4])]
set_option maxHeartbeats 2000000 in
theorem volOf_any (A : Option Addr) (cap B : Nat) (l : S) (w : World) (T : Nat → Tag) (hT : ∀ b, w.heap.size ≤ b → T b = .none) (hl : l.length ≤ 900000) (hc : l.length ≤ cap) (hA : A = none → cap = 0) (hB : B ≤ w.heap.size) (hr : Rd w B A l) :
    Calls Tryz.prog 100 #[.slice A l.length cap] w (VolSaid w T l) := by
  have N1 := heap_alloc_new w (.cells #[.int .u64 0, .int .u64 0, .slice none 0 0, .int .i64 0] 60)
  have B1 : Below w.heap.size w (w.alloc (.cells #[.int .u64 0, .int .u64 0, .slice none 0 0, .int .i64 0] 60)) := (Below.refl _ _).alloc (Nat.le_refl _) _
  have c121 := Frm.scan_any A cap B l (w.alloc (.cells #[.int .u64 0, .int .u64 0, .slice none 0 0, .int .i64 0] 60)) hl hc hA (Nat.le_trans hB B1.size) (hr.below B1 hB)
  obtain ⟨m, hm⟩ : ∃ m, m = l.length := ⟨_, rfl⟩
  rw [← hm] at c121 ⊢
  have HM := Lib.hid (And.intro hm (show m ≤ 900000 by omega))
  have HN1 := Lib.hid (And.intro N1 B1)
  have HT := Lib.hid hT
  clear hr hl hc hA hm N1 B1 hT
  go_enter Tryz.func100, Tryz.ntmps100
  go_upto_region 1 with (fail)
  generalize w.alloc (.cells #[.int .u64 0, .int .u64 0, .slice none 0 0, .int .i64 0] 60) = w1 at *
  go_upto_region 2 with (go_at_call 121; (with_reducible refine c121.mono ?_); rintro e w2 ⟨v, xs, b, er, rfl, I2, C2, E2, B2⟩; obtain ⟨n1, hn1⟩ : ∃ n, n = xs.length := ⟨_, rfl⟩; obtain ⟨gl, O2, L2⟩ := OwnO.of I2.own; rw [← hn1] at O2; obtain ⟨A1, c1, rfl, hc1, hA1⟩ := O2.form; have HI := Lib.hid (And.intro O2 (And.intro L2 (And.intro I2.row (And.intro hn1 (And.intro C2 (And.intro E2 B2)))))); clear O2 L2 C2 E2 B2 I2 hn1 c121)
  have B2 := HI.out.2.2.2.2.2.2
  have N2 := (B2.block _ (Array.getElem?_eq_some_iff.1 HN1.out.1).1).trans HN1.out.1
  have HB2 := Lib.hid (And.intro N2 (And.intro (HN1.out.2.trans (B2.mono HN1.out.2.size)) (And.intro (Array.getElem?_eq_some_iff.1 HN1.out.1).1 B2.size)))
  clear B2 N2
  have BAD : Hid (∀ W, w2.heap.size ≤ W.heap.size → Below w.heap.size w W → (∀ d', VolIs l d' → d'.first = 0) → VolSaid w T l (.returned (.tuple #[.agg #[.int .u64 0, .int .u64 0, .slice none 0 0, .int .i64 0], .bool false])) W) := fun W _ hW hV =>
    ⟨⟨0, 0, [], 0⟩, none, 0, 0, false, rfl, hW, (by decide), (by decide), Nat.zero_le _, (fun h => by cases h), fun _ => hV⟩
  by_cases h0 : n1 = 0
  · have hx0 : xs = [] := List.eq_nil_of_length_eq_zero (by rw [← HI.out.2.2.2.1]; exact h0)
    have hV : ∀ d', VolIs l d' → d'.first = 0 := by
      rintro d' ⟨ps, b', er', k1, k2, _⟩
      have k3 := HI.out.2.2.2.2.1
      rw [hx0] at k3
      have := (Frm.chain_one l _ 0 b er _ b' er' k3 HI.out.2.2.2.2.2.1 k1 k2 (Nat.zero_le _)).1
      cases this
    have HV := Lib.hid hV
    clear hV hx0
    have h0' : (n1 : Int) = 0 := by omega
    obtain ⟨t0, t1, t2, t3, tf⟩ := Frm.cells4 HB2.out.1
    have P2 := put4 HB2.out.1 (.int .u64 0) (.int .u64 0) (.slice none 0 0) (.int .i64 0)
    have G2 := set4_grown w2 w.heap.size (.int .u64 0) (.int .u64 0) (.slice none 0 0) (.int .i64 0)
    go_wp2
    clear t0 t1 t2 t3 tf
    generalize World.setCell (World.setCell (World.setCell (World.setCell w2 _ _) _ _) _ _) _ _ = w5 at *
    (try simp only [Exit.inBlock, Exit.then])
    refine bodyPost_ret (res60 rfl _ _ w.heap.size 60 _ (0, 0) rfl P2 rfl) rfl ?_
    exact BAD.out w5 G2.size (HB2.out.2.1.grown G2 HB2.out.2.1.size (fun k h => by cases h; exact Nat.le_refl _)) HV.out
  · obtain ⟨⟨a0, g0⟩, xs', hxs⟩ : ∃ x ys, xs = x :: ys := by
      cases xs with
      | nil => exact absurd HI.out.2.2.2.1 h0
      | cons x ys => exact ⟨x, ys, rfl⟩
    obtain ⟨n2, rfl⟩ : ∃ n, n1 = n + 1 := ⟨n1 - 1, by omega⟩
    have hCh := HI.out.2.2.2.2.1
    rw [hxs] at hCh
    obtain ⟨ha0, hpos, herr, hrest⟩ := hCh
    have ha0 : a0 = 0 := ha0
    subst ha0
    rw [List.drop_zero] at herr
    have hO := HI.out.1
    rw [hxs] at hO
    have hO : OwnO w2 75 4 (.slice A1 (n2 + 1) c1) (n2 + 1) (Frm.itemC l (0, g0) ++ xs'.flatMap (Frm.itemC l)) gl := by rw [List.flatMap_cons] at hO; exact hO
    obtain ⟨A2, hsl, gl', hO2, hgl⟩ := hO.tail rfl
    have hrow := (HI.out.2.2.1 (0, g0) (by rw [hxs]; exact List.mem_cons_self)).1
    have hrow : Row w2 g0 (body l) := hrow
    have hbl := body_len l herr
    have hsz := (Frm.err_ok l herr).2.2.1
    have hci : ∀ i (hi : i < 4), ∃ g off, A1 = some ⟨g, off, none⟩ ∧ w2.cell? ⟨g, off + i, none⟩ = some ((Frm.itemC l (0, g0))[i]'hi) := fun i hi => by
      obtain ⟨g, off, cap', e, _, hc, _⟩ := hO.cell i (by rw [List.length_append]; have : (Frm.itemC l (0, g0)).length = 4 := rfl; omega)
      injection e with e
      refine ⟨g, off, e, ?_⟩
      rw [hc, List.getElem_append_left (by exact hi)]
    obtain ⟨g, off, e, f0⟩ := hci 0 (by decide)
    subst e
    have hcj : ∀ i (hi : i < 4), w2.cell? ⟨g, off + i, none⟩ = some ((Frm.itemC l (0, g0))[i]'hi) := fun i hi => by
      obtain ⟨g', off', e, f⟩ := hci i hi
      injection e with e
      injection e with e1 e2 _
      subst e1 e2
      exact f
    have f1 := hcj 1 (by decide)
    have f2 := hcj 2 (by decide)
    have f3 := hcj 3 (by decide)
    have e2 : (Frm.itemC l (0, g0)) = [.int .u8 ((kind l).toNat : Int), .slice (some ⟨g0, 0, none⟩) (cnt l) (cnt l), .int .i64 ((0 : Nat) : Int), .int .i64 ((0 + size l : Nat) : Int)] := rfl
    simp only [e2, List.getElem_cons_zero, List.getElem_cons_succ, Nat.add_zero] at f0 f1 f2 f3
    rw [← hbl] at f1
    obtain ⟨k, hk⟩ : ∃ k, k = (kind l).toNat := ⟨_, rfl⟩
    obtain ⟨bn, hbn⟩ : ∃ n, n = (body l).length := ⟨_, rfl⟩
    obtain ⟨sb, hsb⟩ : ∃ n, n = 0 + size l := ⟨_, rfl⟩
    obtain ⟨z0, hz0⟩ : ∃ n : Nat, n = 0 := ⟨_, rfl⟩
    rw [← hk] at f0
    rw [← hbn] at f1
    rw [← hz0] at f2
    rw [← hsb] at f3
    obtain ⟨c2, hc2⟩ : ∃ n, n = c1 - 1 := ⟨_, rfl⟩
    rw [← hc2] at hsl hO2
    have HO2 := Lib.hid hO2
    have HGL := Lib.hid hgl
    have HK := Lib.hid (And.intro hk (And.intro hbn (And.intro hrow (And.intro herr (And.intro hrest (And.intro hxs hsz))))))
    have hgl2 : g < w2.heap.size := block_lt_of_cell (a := ⟨g, off, none⟩) f0
    have HF := Lib.hid (And.intro f0 (And.intro f1 (And.intro f2 (And.intro f3 hgl2))))
    clear hO hci hcj e2 hO2 hgl hk hbn hsb hz0 hc2 hrow herr hrest hxs hsz hbl f0 f1 f2 f3 hgl2 hpos h0
    go_upto_region 5 with (go_in)
    have N4 := heap_alloc_new w2 (.cells #[.int .u64 0, .int .u64 0, .slice A2 n2 c2, .int .i64 (b : Int)] 60)
    have B4 : Below w2.heap.size w2 (w2.alloc (.cells #[.int .u64 0, .int .u64 0, .slice A2 n2 c2, .int .i64 (b : Int)] 60)) := (Below.refl _ _).alloc (Nat.le_refl _) _
    have z4 : (w2.alloc (.cells #[.int .u64 0, .int .u64 0, .slice A2 n2 c2, .int .i64 (b : Int)] 60)).heap.size = w2.heap.size + 1 := by simp
    generalize w2.alloc (.cells #[.int .u64 0, .int .u64 0, .slice A2 n2 c2, .int .i64 (b : Int)] 60) = w4 at *
    have f0 := (B4.cell (p := ⟨g, off, none⟩) HF.out.2.2.2.2).trans HF.out.1
    have f1 := (B4.cell (p := ⟨g, off + 1, none⟩) HF.out.2.2.2.2).trans HF.out.2.1
    have f2 := (B4.cell (p := ⟨g, off + 2, none⟩) HF.out.2.2.2.2).trans HF.out.2.2.1
    have f3 := (B4.cell (p := ⟨g, off + 3, none⟩) HF.out.2.2.2.2).trans HF.out.2.2.2.1
    have B6 : Below w4.heap.size w4 (w4.alloc (.cells #[.pointer (some ⟨w2.heap.size, 0, none⟩), .pointer (some ⟨w2.heap.size, 1, none⟩)] 114)) := (Below.refl _ _).alloc (Nat.le_refl _) _
    have N6 := heap_alloc_new w4 (.cells #[.pointer (some ⟨w2.heap.size, 0, none⟩), .pointer (some ⟨w2.heap.size, 1, none⟩)] 114)
    have hg4 : w2.heap.size < w4.heap.size := by omega
    have c70 := takeN_any (w4.alloc (.cells #[.pointer (some ⟨w2.heap.size, 0, none⟩), .pointer (some ⟨w2.heap.size, 1, none⟩)] 114)) k bn bn z0 sb 84 (some ⟨g0, 0, none⟩) (body l) HK.out.2.1 (by have h1 := body_len l HK.out.2.2.2.1; have h2 := HK.out.2.2.2.2.2.2; have h3 := HM.out; unfold Frm.size at h2; omega)
      (((HK.out.2.2.1.below B4 HK.out.2.2.1.lt).below B6 (HK.out.2.2.1.below B4 HK.out.2.2.1.lt).lt).rd)
      w4.heap.size 2 w2.heap.size 0 60 #[.int .u64 0, .int .u64 0, .slice A2 n2 c2, .int .i64 (b : Int)] N6 ((B6.block _ hg4).trans N4) (by omega) (by show 0 + 2 ≤ 4; decide) (nob4 _ _ _ _ _) (by decide)
    have HB6 := Lib.hid (And.intro B4 (And.intro B6 (And.intro N4 z4)))
    clear B6 N6 B4 N4 z4
    obtain ⟨zb, hzb⟩ : ∃ z, z = decide (((k : Int) = 84) ∧ endV (stP (body l) 2).1 (stP (body l) 2).2 = 0) := ⟨_, rfl⟩
    rw [← hzb] at c70
    have hcs : setJ #[.int .u64 0, .int .u64 0, .slice A2 n2 c2, .int .i64 (b : Int)] 0 (body l) 2 = #[.int .u64 (valP (body l) 0 : Int), .int .u64 (valP (body l) 1 : Int), .slice A2 n2 c2, .int .i64 (b : Int)] := rfl
    rw [hcs] at c70
    have HZB := Lib.hid hzb
    have HC := Lib.hid HI.out.2.2.2.2
    clear hzb hcs
    cases zb with
    | false =>
      have hV : ∀ d', VolIs l d' → d'.first = 0 := by
        rintro d' ⟨ps, b', er', k1, k2, k3, k4, _⟩
        have hz := HZB.out
        unfold titled at k4
        rw [HK.out.1] at hz
        have : (true : Bool) = false := by
          rw [hz]
          simp only [true_eq_decide_iff]
          exact ⟨by omega, of_decide_eq_true k4⟩
        cases this
      have HV := Lib.hid hV
      clear hV
      go_upto_region 6 with (go_at_call 70; (with_reducible refine c70.mono ?_); rintro e w7 ⟨rfl, N7, G7⟩; have H7 := Lib.hid (And.intro N7 G7); clear N7 G7 c70)
      clear f0 f1 f2 f3
      have hb7 : Below w.heap.size w w7 := by
        have h1 := HB2.out.2.1.trans (HB6.out.1.mono HB2.out.2.1.size)
        have h2 := h1.trans (HB6.out.2.1.mono h1.size)
        exact h2.grown H7.out.2 h2.size (fun k h => by injection h with h; have := HB2.out.2.1.size; omega)
      have N9 : w7.heap[w.heap.size]? = some (.cells #[.int .u64 0, .int .u64 0, .slice none 0 0, .int .i64 0] 60) := by
        have hlt := (Array.getElem?_eq_some_iff.1 HB2.out.1).1
        have h1 := (HB6.out.1.block _ hlt).trans HB2.out.1
        have h2 := (HB6.out.2.1.block _ (Array.getElem?_eq_some_iff.1 h1).1).trans h1
        exact (H7.out.2.block _ (Array.getElem?_eq_some_iff.1 h2).1 (fun e => by injection e with e; omega)).trans h2
      have hs7 : w2.heap.size ≤ w7.heap.size := Nat.le_trans HB6.out.1.size (Nat.le_trans HB6.out.2.1.size H7.out.2.size)
      have HB7 := Lib.hid (And.intro hb7 hs7)
      clear hb7 hs7
      obtain ⟨t0, t1, t2, t3, tf⟩ := Frm.cells4 N9
      have P2 := put4 N9 (.int .u64 0) (.int .u64 0) (.slice none 0 0) (.int .i64 0)
      have G2 := set4_grown w7 w.heap.size (.int .u64 0) (.int .u64 0) (.slice none 0 0) (.int .i64 0)
      go_wp2
      clear t0 t1 t2 t3 tf
      generalize World.setCell (World.setCell (World.setCell (World.setCell w7 _ _) _ _) _ _) _ _ = w5 at *
      (try simp only [Exit.inBlock, Exit.then])
      refine bodyPost_ret (res60 rfl _ _ w.heap.size 60 _ (0, 0) rfl P2 rfl) rfl ?_
      exact BAD.out w5 (Nat.le_trans HB7.out.2 G2.size) (HB7.out.1.grown G2 HB7.out.1.size (fun k h => by cases h; exact Nat.le_refl _)) HV.out
    | true =>
      obtain ⟨v0, hv0⟩ : ∃ v, v = valP (body l) 0 := ⟨_, rfl⟩
      obtain ⟨v1, hv1⟩ : ∃ v, v = valP (body l) 1 := ⟨_, rfl⟩
      rw [← hv0, ← hv1] at c70
      have HV01 := Lib.hid (And.intro hv0 hv1)
      clear hv0 hv1
      go_upto_region 7 with (go_at_call 70; (with_reducible refine c70.mono ?_); rintro e w7 ⟨rfl, N7, G7⟩; have H7 := Lib.hid (And.intro N7 G7); clear N7 G7 c70)
      clear f0 f1 f2 f3
      have hb7 : Below w.heap.size w w7 := by
        have h1 := HB2.out.2.1.trans (HB6.out.1.mono HB2.out.2.1.size)
        have h2 := h1.trans (HB6.out.2.1.mono h1.size)
        exact h2.grown H7.out.2 h2.size (fun k h => by injection h with h; have := HB2.out.2.1.size; omega)
      have N9 : w7.heap[w.heap.size]? = some (.cells #[.int .u64 0, .int .u64 0, .slice none 0 0, .int .i64 0] 60) := by
        have hlt := (Array.getElem?_eq_some_iff.1 HB2.out.1).1
        have h1 := (HB6.out.1.block _ hlt).trans HB2.out.1
        have h2 := (HB6.out.2.1.block _ (Array.getElem?_eq_some_iff.1 h1).1).trans h1
        exact (H7.out.2.block _ (Array.getElem?_eq_some_iff.1 h2).1 (fun e => by injection e with e; omega)).trans h2
      have hk7 : ∀ x, x < w2.heap.size → w7.heap[x]? = w2.heap[x]? := fun x hx => by
        have h1 := HB6.out.1.block x hx
        have hx4 : x < w4.heap.size := Nat.lt_of_lt_of_le hx HB6.out.1.size
        have h2 := HB6.out.2.1.block x hx4
        exact (H7.out.2.block x (Nat.lt_of_lt_of_le hx4 HB6.out.2.1.size) (fun e => by injection e with e; omega)).trans (h2.trans h1)
      have hs7 : w2.heap.size ≤ w7.heap.size := Nat.le_trans HB6.out.1.size (Nat.le_trans HB6.out.2.1.size H7.out.2.size)
      have hne7 : w2.heap.size ≠ w.heap.size := by have := HB2.out.2.2.1; have := HB2.out.2.2.2; omega
      have HV : Hid (w7.drew.heap[w2.heap.size]? = some (.cells #[.int .u64 (v0 : Int), .int .u64 (v1 : Int), .slice A2 n2 c2, .int .i64 (b : Int)] 60) ∧ w7.drew.heap[w.heap.size]? = some (.cells #[.int .u64 0, .int .u64 0, .slice none 0 0, .int .i64 0] 60) ∧ w2.heap.size ≠ w.heap.size ∧ Below w.heap.size w w7.drew ∧ (∀ x, x < w2.heap.size → w7.drew.heap[x]? = w2.heap[x]?) ∧ w2.heap.size ≤ w7.drew.heap.size) :=
        ⟨H7.out.1, N9, hne7, hb7.drew, hk7, hs7⟩
      clear hb7 N9 hk7 hs7 hne7 H7
      refine wp_region_noPanic ?_
      refine wp_region_held_drew (S := fun x : World => x.heap[w2.heap.size]? = some (.cells #[.int .u64 (v0 : Int), .int .u64 (v1 : Int), .slice A2 n2 c2, .int .i64 (b : Int)] 60)) (by kernel_rfl) HV.out.1 (fun hHeld => ?_)
      generalize w7.drew = wd at *
      refine wpAnyH_take (i := 0) (oi := ⟨some 31, .load 60 (.tmp 7), 60, "bytes.go:57", #[], none⟩) (v := .agg #[.int .u64 (v0 : Int), .int .u64 (v1 : Int), .slice A2 n2 c2, .int .i64 (b : Int)]) rfl (by kernel_rfl) (by kernel_rfl) (by kernel_rfl) (fun _ _ _ h => h) (Or.inl ⟨by rfl, fun w hSw => by obtain ⟨p0, p1, p2, p3, -⟩ := Frm.cells4 hSw; go_simp⟩) (by assumption) ?_
      try simp only [Act.put, stA, stB, stC]
      refine wpAnyH_take (i := 1) (oi := ⟨some 32, .fieldAddr 60 (.tmp 7) 1, 0, "bytes.go:57", #[⟨4, .gcOnly .lateStores⟩], none⟩) (v := .pointer (some ⟨w2.heap.size, 1, none⟩)) rfl (by kernel_rfl) (by kernel_rfl) (by kernel_rfl) (fun _ _ _ h => h) (Or.inl ⟨by rfl, fun w hSw => by go_simp⟩) (by assumption) ?_
      try simp only [Act.put, stA, stB, stC]
      refine wpAnyH_take (i := 2) (oi := ⟨some 33, .load 42 (.tmp 32), 42, "bytes.go:57", #[⟨1, .data⟩, ⟨4, .gcOnly .lateStores⟩], none⟩) (v := .int .u64 (v1 : Int)) rfl (by kernel_rfl) (by kernel_rfl) (by kernel_rfl) (fun _ _ _ h => h) (Or.inl ⟨by rfl, fun w hSw => by obtain ⟨p0, p1, p2, p3, -⟩ := Frm.cells4 hSw; go_simp⟩) (by assumption) ?_
      try simp only [Act.put, stA, stB, stC]
      refine wpAnyH_take (i := 3) (oi := ⟨some 34, .binOp .gtr 42 (.tmp 33) (.const (.int .u64 0)) 42, 4, "bytes.go:57", #[⟨2, .data⟩, ⟨4, .gcOnly .lateStores⟩], none⟩) (v := .bool (decide ((0 : Int) < (v1 : Int)))) rfl (by kernel_rfl) (by kernel_rfl) (by kernel_rfl) (fun _ _ _ h => h) (Or.inl ⟨by rfl, fun w hSw => by go_simp⟩) (by assumption) ?_
      try simp only [Act.put, stA, stB, stC]
      refine wpAnyH_ready (rs := [4]) (by kernel_rfl) (by simp) ?_
      refine AllReadyH.cons (o := ⟨none, .store 60 (.tmp 2) (.tmp 31), 0, "bytes.go:57", #[⟨0, .data⟩, ⟨0, .phase⟩, ⟨1, .textOnly .lateStores⟩, ⟨2, .textOnly .lateStores⟩, ⟨3, .textOnly .lateStores⟩], none⟩) rfl (fun K hK => ?_) AllReadyH.nil
      obtain ⟨t0, t1, t2, t3, tf⟩ := Frm.cells4 HV.out.2.1
      have P2 := put4 HV.out.2.1 (.int .u64 (v0 : Int)) (.int .u64 (v1 : Int)) (.slice A2 n2 c2) (.int .i64 (b : Int))
      have G2 := set4_grown wd w.heap.size (.int .u64 (v0 : Int)) (.int .u64 (v1 : Int)) (.slice A2 n2 c2) (.int .i64 (b : Int))
      go_simp
      refine hK.out _ _ ((G2.block _ (Array.getElem?_eq_some_iff.1 hHeld).1 (fun h => HV.out.2.2.1 (by injection h))).trans hHeld) (fun hHeld => ?_)
      clear hK K
      try simp only [Act.put, stA, stB, stC]
      clear t0 t1 t2 t3 tf
      generalize World.setCell (World.setCell (World.setCell (World.setCell wd _ _) _ _) _ _) _ _ = w5 at *
      refine wpAnyH_take (i := 5) (oi := ⟨some 3, .assign (.tmp 34), 4, "bytes.go:57", #[⟨3, .data⟩, ⟨4, .chain⟩, ⟨0, .phase⟩, ⟨1, .phase⟩, ⟨2, .phase⟩, ⟨3, .phase⟩, ⟨4, .phase⟩], none⟩) (v := .bool (decide ((0 : Int) < (v1 : Int)))) rfl (by kernel_rfl) (by kernel_rfl) (by kernel_rfl) (fun _ _ _ h => h) (Or.inl ⟨by rfl, fun w hSw => by go_simp⟩) (by assumption) ?_
      try simp only [Act.put, stA, stB, stC]
      refine wpAnyH_done (by kernel_rfl) ?_ _
      try unfold NoPanic
      go_wp2
      (try simp only [Exit.inBlock, Exit.then])
      refine bodyPost_ret (res60 rfl _ _ w.heap.size 60 _ (0, 0) rfl P2 rfl) rfl ?_
      have hk5 : ∀ x, x < w2.heap.size → x ≠ w.heap.size → w5.heap[x]? = w2.heap[x]? := fun x hx hne => (G2.block x (Nat.lt_of_lt_of_le hx HV.out.2.2.2.2.2) (fun e => hne (by injection e))).trans (HV.out.2.2.2.2.1 x hx)
      have hb5 : Below w.heap.size w w5 := HV.out.2.2.2.1.grown G2 HV.out.2.2.2.1.size (fun k h => by cases h; exact Nat.le_refl _)
      have hle := (Frm.chain_le l _ 0 b (Nat.zero_le _) HC.out.1).2
      have hch := HC.out.1
      have hends := HC.out.2.1
      obtain ⟨hk84, hen⟩ := of_decide_eq_true HZB.out.symm
      rw [HK.out.2.2.2.2.2.1] at hch
      refine ⟨⟨v0, v1, (xs'.map (·.1)).map (itAt l), b⟩, A2, n2, c2, decide (0 < v1), rfl, hb5, ?_, ?_, hle, fun hok => ⟨⟨xs'.map (·.1), b, er, (show Frm.chain l 0 (0 :: xs'.map (·.1)) b from hch), hends, ?_, ?_, ?_⟩, ?_, gl', ?_, ?_⟩, fun hno d' hd' => ?_⟩
      · rw [HV01.out.1]; exact valP_lt _ _
      · rw [HV01.out.2]; exact valP_lt _ _
      · have := HK.out.1; omega
      · unfold titled; exact decide_eq_true hen
      · rw [HV01.out.1, HV01.out.2]
      · exact of_decide_eq_true hok
      · exact lat_of HO2.out HK.out.2.2.2.2.1 (fun x hx => HI.out.2.2.1 x (by rw [HK.out.2.2.2.2.2.1]; exact List.mem_cons_of_mem _ hx)) (fun g hg => by
          rcases HGL.out with e | e
          · rw [e] at hg; cases hg
          · exact HI.out.2.1 g (e.symm.trans hg)) HB2.out.2.2.1 hk5 HT.out
      · intro g hg
        rcases HGL.out with e | e
        · rw [e] at hg; cases hg
        · have := HI.out.2.1 g (e.symm.trans hg)
          have := HB2.out.2.2.1
          omega
      · obtain ⟨ps, b', er', k1, k2, _, _, rfl⟩ := hd'
        have := of_decide_eq_false hno
        show valP (body l) 1 = 0
        rw [← HV01.out.2]
        omega
end Go.Proofs.YtdbhgkbmbbjpdaaGreatDoor.Chr
