/- Bytes of a chronicle without a base. Volumes copied. Volumes: a copy, without its records. A chronicle of records of one kind, nothing folded: how they are laid into volumes. Pure. -/
import Derived.Test.YtdbhgkbmbbjpdaaGreatDoorPg
import Derived.Lib.AppendZeros
namespace Go.Proofs.YtdbhgkbmbbjpdaaGreatDoor.Chr
open Go.ChangeShapes Go.WideShapes Go.ChangeAt Go.RowKit
open Shf (S str)
open Coin (Rd Row Own sz coin got Pur takeV endV CoinSaid)
open Frm (pack err size kind cnt body noItem itemV OneSaid)
set_option maxRecDepth 8000
set_option linter.unusedVariables false
open Shf (Tag Ext Rep M RdN get Fine)
variable {lo : Nat}
def volsZ (h : Nat) (l : List VolD) (i : Nat) : Nat := h + ((l.take i).map (·.size)).sum
theorem volsZ_next (h : Nat) (l : List VolD) (i : Nat) (hi : i < l.length) : volsZ h l (i + 1) = volsZ h l i + l[i].size := by
  unfold volsZ
  rw [List.take_succ_eq_append_getElem hi, List.map_append, List.sum_append]
  simp
  omega
theorem volsZ_le (h : Nat) (l : List VolD) (z : Nat) (hz : ∀ d ∈ l, d.size ≤ z) : ∀ i, volsZ h l i ≤ h + i * z
  | 0 => by simp [volsZ]
  | i + 1 => by
    have ih := volsZ_le h l z hz i
    by_cases hi : i < l.length
    · rw [volsZ_next h l i hi]
      have := hz _ (List.getElem_mem hi)
      have e : (i + 1) * z = i * z + z := by rw [Nat.add_mul, Nat.one_mul]
      omega
    · have e : volsZ h l (i + 1) = volsZ h l i := by unfold volsZ; rw [List.take_of_length_le (by omega), List.take_of_length_le (by omega)]
      have e2 : (i + 1) * z = i * z + z := by rw [Nat.add_mul, Nat.one_mul]
      omega
theorem bytesN_any (w : World) (T : Nat → Tag) (p q : Nat) (c : CD) (C : CAt lo w T p q c) (hB : c.hB = 0) (hF : c.hF < 1000000) (hU : c.hU < 1000000) (hn : c.vols.length ≤ 1000) (hz : ∀ d ∈ c.vols, d.size ≤ 1000000) :
    Calls Tryz.prog 30 #[.pointer (some ⟨p, 0, none⟩)] w fun e w' => e = .returned (.int .i64 (volsZ (headB c.hF 0 c.hU).length c.vols c.vols.length : Nat)) ∧ Below w.heap.size w w' := by
  obtain ⟨bA, bc, vv, gv, Cv⟩ := C
  obtain ⟨vA, vcap, rfl⟩ := Cv.nil
  have hr0 := Cv.row
  unfold cC at hr0
  rw [hB] at hr0
  have HC := Lib.hid Cv
  have HR := Lib.hid hr0
  have hh : (headB c.hF 0 c.hU).length ≤ 1000 := Nat.le_trans (head_le c.hF 0 c.hU) (by decide)
  obtain ⟨h, hhh⟩ : ∃ h, h = (headB c.hF 0 c.hU).length := ⟨_, rfl⟩
  have c38 : Calls Tryz.prog 38 #[.agg #[.int .u64 (c.hF : Int), .int .u64 0, .int .u64 (c.hU : Int)]] w (Coin.CoinOwn w (headB c.hF 0 c.hU)) := head_own w c.hF 0 c.hU (by omega) (by omega) (by omega)
  obtain ⟨fz, hfz⟩ : ∃ z, z = c.hF := ⟨_, rfl⟩
  obtain ⟨uz, huz⟩ : ∃ z, z = c.hU := ⟨_, rfl⟩
  rw [← hhh] at hh
  obtain ⟨n, hnn⟩ : ∃ n, n = c.vols.length := ⟨_, rfl⟩
  have HN := Lib.hid (And.intro hnn (And.intro hn (And.intro hz hh)))
  have HH := Lib.hid hhh
  rw [← hnn, ← hhh]
  rw [← hnn] at hr0
  obtain ⟨p0, p1, p2, p3, p4, p5, p6, p7, -⟩ := row8 hr0
  have HP6 := Lib.hid p6
  have HP3 := Lib.hid p3
  clear Cv hr0 hh hhh hnn hn hz hF hU hB
  go_enter Tryz.func30, Tryz.ntmps30
  go_upto_region 6 with (go_at_call 38; (with_reducible refine c38.mono ?_); rintro e w1 ⟨v, rfl, O1, B1⟩; obtain ⟨A1, c1, rfl, -, -, -⟩ := O1.form; rw [← HH.out]; have HB1 := Lib.hid B1; have p6 := (World.cell?_of_block (a := ⟨p, 6, none⟩) (B1.block p (Array.getElem?_eq_some_iff.1 HR.out).1)).trans p6; have p3 := (World.cell?_of_block (a := ⟨p, 3, none⟩) (B1.block p (Array.getElem?_eq_some_iff.1 HR.out).1)).trans p3; clear B1 O1 c38)
  clear p0 p1 p2 p4 p5 p7 p3
  have h00 : volsZ h c.vols 0 = h := by unfold volsZ; simp
  have HS0 : Hid (Below w1.heap.size w1 w1) := Lib.hid (Below.refl _ _)
  go_wp2
  go_loopw [3, 33] (fun v3 v33 wr => ∃ i : Nat, v3 = .int .i64 ((volsZ h c.vols i : Nat) : Int) ∧ i ≤ n ∧ v33 = .int .i64 (i : Int) ∧ Hid (Below w1.heap.size w1 wr)) (fun _ v33 _ => n - (intOf v33).toNat)
  case atStart => exact ⟨0, by rw [h00], Nat.zero_le _, rfl, HS0⟩
  case round =>
    clear HS0 h00
    obtain ⟨i, rfl, hi, rfl, HJ⟩ := hrel
    by_cases hlt : i < n
    · have hil : i < c.vols.length := by rw [← HN.out.1]; exact hlt
      have BJ := HB1.out.trans (HJ.out.mono HB1.out.size)
      obtain ⟨g, off, lA, lc, rfl, -, hcap, V⟩ := HC.out.vs.in' BJ i hil
      have hnx := volsZ_next h c.vols i hil
      have hle := volsZ_le h c.vols 1000000 HN.out.2.2.1 (i + 1)
      have hn1 := HN.out.2.1
      have hh := HN.out.2.2.2
      have hnl := HN.out.1
      obtain ⟨d, hd⟩ : ∃ d, d = c.vols[i] := ⟨_, rfl⟩
      rw [← hd] at hnx V
      obtain ⟨sz9, hsz⟩ : ∃ z, z = d.size := ⟨_, rfl⟩
      rw [← hsz] at hnx
      obtain ⟨acc, hacc⟩ : ∃ z, z = volsZ h c.vols i := ⟨_, rfl⟩
      rw [← hacc] at hnx ⊢
      obtain ⟨k0, k1, k2, k3⟩ := V
      rw [← hsz] at k3
      have hw : IntKind.i64.wrap ((acc : Int) + (sz9 : Int)) = ((acc + sz9 : Nat) : Int) := by rw [IntKind.wrap_i64]; omega
      have hw1 : IntKind.i64.wrap ((i : Int) + 1) = ((i + 1 : Nat) : Int) := by rw [IntKind.wrap_i64]; omega
      have HNX := Lib.hid hnx
      have hjr : (i : Int) < (n : Int) := by omega
      have HLT := Lib.hid hlt
      clear hnx hle hn1 hh hsz hacc hd hil BJ hnl hcap hi hlt
      go_wp2
      go_roundw
      case rel => exact ⟨i + 1, by rw [HNX.out]; simp, by have := HLT.out; omega, rfl, Lib.hid (HJ.out.alloc HJ.out.size _)⟩
      case measure => have := HLT.out; simp [intOf]; omega
    · obtain rfl : i = n := by omega
      have hjr : ¬ (i : Int) < (i : Int) := by omega
      go_wp2
      go_ret
      exact ⟨rfl, HB1.out.trans (HJ.out.mono HB1.out.size)⟩
end Go.Proofs.YtdbhgkbmbbjpdaaGreatDoor.Chr
namespace Go.Proofs.YtdbhgkbmbbjpdaaGreatDoor.Chr
open Go.ChangeShapes Go.WideShapes Go.ChangeAt Go.RowKit
open Shf (S str)
open Coin (Rd Row Own sz coin got Pur takeV endV CoinSaid)
open Frm (pack err size kind cnt body noItem itemV OneSaid)
set_option maxRecDepth 8000
set_option linter.unusedVariables false
open Shf (Tag Ext Rep M RdN get Fine)
variable {lo : Nat}
theorem clone53 (w : World) (A : Option Addr) (n cap : Nat) (xs : List Value) (gl : Option Nat) (h : OwnO w 60 4 (.slice A n cap) n xs gl) (h1 : ∀ u ∈ xs, u.oneCell' = true) (hn : n ≤ 1000) :
    Calls Tryz.prog 53 #[.slice A n cap] w fun e w' => ∃ v' gl', e = .returned v' ∧ OwnO w' 60 4 v' n xs gl' ∧ (∀ g, gl' = some g → w.heap.size ≤ g) ∧ Below w.heap.size w w' := by
  have q53 : ∀ (w : World) (a : Option Addr) (n c n' c' : Nat), (binOp .eql 53 (.slice a n c) (.slice none n' c')).run Tryz.prog w = .ok (.bool a.isNone) w := fun w a n c n' c' => Lib.run_eql_slice_nil w _ _ a n c n' c' Tryz.underlying53
  obtain ⟨A', cap', e, hle, hA0⟩ := h.form
  injection e with e1 _ e2
  subst e1 e2
  have hxl : xs.length = n * 4 := h.1
  cases A with
  | none =>
    obtain rfl : cap = 0 := hA0 rfl
    obtain rfl : n = 0 := by omega
    obtain rfl : xs = [] := List.eq_nil_of_length_eq_zero (by omega)
    clear h
    go_enter Tryz.func53, Tryz.ntmps53
    go_wp2
    go_ret
    exact ⟨_, rfl, none, OwnO.nil _ _ _, (fun g h => by cases h), Below.refl _ _⟩
  | some ad =>
    obtain ⟨i0, hi, hz, hs, hby⟩ := info60'
    have B1 : Below w.heap.size w (w.alloc (.cells #[] 60)) := (Below.refl _ _).alloc (Nat.le_refl _) _
    have O1 : (w.alloc (.cells #[] 60)).ownsRow w.heap.size 60 4 (.slice (some ⟨w.heap.size, 0, none⟩) 0 0) 0 [] := World.ownsRow_lit (e := 60) (size := 4) w #[] 0 (Nat.le_refl _) (Nat.zero_le _) rfl
    have hk := h.keep (fun g hg => B1.block g (h.lt g hg).1)
    have hc : ∀ j u, xs[j]? = some u → (w.alloc (.cells #[] 60)).cell? (ad.add j) = some u := fun j u hj => by
      have hjl : j < xs.length := by
        rcases Nat.lt_or_ge j xs.length with h | h
        · exact h
        · rw [List.getElem?_eq_none h] at hj; cases hj
      obtain ⟨g, off, c9, e1, _, e3, _⟩ := hk.cell j hjl
      injection e1 with e1 _ _
      injection e1 with e1
      subst e1
      rw [show (⟨g, off, none⟩ : Addr).add j = ⟨g, off + j, none⟩ by unfold Addr.add; split <;> simp_all, e3, ← hj, List.getElem?_eq_getElem hjl]
    obtain ⟨v', w', hrun, r1, r2, _⟩ := run_append_own (P := Tryz.prog) (w := w.alloc (.cells #[] 60)) w.heap.size 53 53 60 i0 zv60 4 48 Tryz.underlying53 hi hz hs hby rfl (by decide) (.slice (some ⟨w.heap.size, 0, none⟩) 0 0) 0 [] O1 ad n cap xs hxl hc h1 (by unfold maxLen; omega) (by omega) B1.size
    have B2 := B1.grown r2 B1.size (fun k hk => by simp [Value.ownBlock] at hk; omega)
    obtain ⟨gl', O2, hg2⟩ := OwnO.of r1
    rw [Nat.zero_add, List.nil_append] at O2
    clear h hk hc r1 r2 B1 O1
    go_enter Tryz.func53, Tryz.ntmps53
    go_wp2_with (at_builtin; (refine Lib.wpList_append_run _ rfl (.tmp 5) (.tmp 6) 53 53 rfl _ _ rfl rfl _ _ hrun ?_))
    go_ret
    exact ⟨_, rfl, gl', O2, hg2, B2⟩
end Go.Proofs.YtdbhgkbmbbjpdaaGreatDoor.Chr
namespace Go.Proofs.YtdbhgkbmbbjpdaaGreatDoor.Chr
open Go.ChangeShapes Go.WideShapes Go.ChangeAt Go.RowKit
open Shf (S str)
open Coin (Rd Row Own sz coin got Pur takeV endV CoinSaid)
open Frm (pack err size kind cnt body noItem itemV OneSaid)
set_option maxRecDepth 8000
set_option linter.unusedVariables false
open Shf (Tag Ext Rep M RdN get Fine)
variable {lo : Nat}
def VX (vols : List VolD) (xs : List Value) (i : Nat) : Prop := ∀ k (hk : k < vols.length), xs[k * 4]? = some (.int .u64 (vols[k].no : Int)) ∧ xs[k * 4 + 1]? = some (.int .u64 (vols[k].first : Int)) ∧ xs[k * 4 + 3]? = some (.int .i64 (vols[k].size : Int)) ∧ (k < i → xs[k * 4 + 2]? = some (.slice none 0 0))
theorem VX.next {vols : List VolD} {xs : List Value} {i : Nat} (h : VX vols xs i) (hi : i * 4 + 2 < xs.length) : VX vols (xs.set (i * 4 + 2) (.slice none 0 0)) (i + 1) := fun k hk => by
  obtain ⟨a, b, c, d⟩ := h k hk
  refine ⟨?_, ?_, ?_, fun hlt => ?_⟩
  · rw [List.getElem?_set_ne (by omega)]; exact a
  · rw [List.getElem?_set_ne (by omega)]; exact b
  · rw [List.getElem?_set_ne (by omega)]; exact c
  · by_cases e : k = i
    · subst e
      rw [List.getElem?_set_self hi]
    · rw [List.getElem?_set_ne (by omega)]
      exact d (by omega)
theorem vx0 (vs : List (VolD × Value × Option Nat)) : VX (vs.map (·.1)) (vs.flatMap volP) 0 := fun k hk => by
  have hkv : k < vs.length := by simpa using hk
  have hl := flat_len vs
  have f : ∀ i (hi : i < 4), (vs.flatMap volP)[k * 4 + i]? = (volP vs[k])[i]? := fun i hi => by
    rw [List.getElem?_eq_getElem (by omega), ← flat_at vs k hkv i hi]
    exact (List.getElem?_eq_getElem _).symm
  have e : (vs.map (·.1))[k] = vs[k].1 := by simp
  rw [e]
  exact ⟨f 0 (by decide), f 1 (by decide), f 3 (by decide), fun h => absurd h (by omega)⟩
theorem vols_any (w : World) (T : Nat → Tag) (p q : Nat) (c : CD) (C : CAt lo w T p q c) (hn : c.vols.length ≤ 1000) :
    Calls Tryz.prog 24 #[.pointer (some ⟨p, 0, none⟩)] w fun e w' => ∃ A cp, e = .returned (.slice A c.vols.length cp) ∧ ∃ xs gl, OwnO w' 60 4 (.slice A c.vols.length cp) c.vols.length xs gl ∧ VX c.vols xs c.vols.length ∧ (∀ g, gl = some g → w.heap.size ≤ g) ∧ Below w.heap.size w w' := by
  obtain ⟨bA, bc, vv, gv, Cv⟩ := C
  obtain ⟨vA, vcap, rfl⟩ := Cv.nil
  have hr0 := Cv.row
  unfold cC at hr0
  obtain ⟨vs, h1, h2, -, h4, -⟩ := Cv.vs
  have hx0 := vx0 vs
  rw [h1] at hx0
  have c53 := clone53 w vA c.vols.length vcap (vs.flatMap volP) gv h2 (fun u hu => by
    obtain ⟨x, hxm, hx⟩ := List.mem_flatMap.1 hu
    unfold volP at hx
    obtain ⟨A, cp, e, _⟩ : ∃ A cp, x.2.1 = .slice A x.1.its.length cp ∧ True := by
      obtain ⟨A, cp, e⟩ := (h4 x (by assumption)).form
      exact ⟨A, cp, e, trivial⟩
    rw [e] at hx
    simp at hx
    rcases hx with rfl | rfl | rfl | rfl <;> rfl) hn
  obtain ⟨n, hnn⟩ : ∃ n, n = c.vols.length := ⟨_, rfl⟩
  rw [← hnn] at c53 hr0 hn ⊢
  obtain ⟨p0, p1, p2, p3, p4, p5, p6, p7, -⟩ := row8 hr0
  have HX0 := Lib.hid (And.intro hx0 (And.intro hnn hn))
  clear hx0 hnn h1 h2 h4 hr0 Cv hn
  go_enter Tryz.func24, Tryz.ntmps24
  go_upto_region 4 with (go_at_call 53; (with_reducible refine c53.mono ?_); rintro e w1 ⟨v, gl, rfl, O1, hg1, B1⟩; obtain ⟨A, cap, rfl, -, -⟩ := O1.form; have H1 := Lib.hid (And.intro O1 (And.intro hg1 B1)); clear O1 hg1 B1 c53)
  clear p0 p1 p2 p3 p4 p5 p6 p7
  have HS0 : Hid (∃ xs, OwnO w1 60 4 (.slice A n cap) n xs gl ∧ VX c.vols xs 0 ∧ Below w.heap.size w w1) := Lib.hid ⟨_, H1.out.1, HX0.out.1, H1.out.2.2⟩
  go_wp2
  go_loopw [14] (fun v14 wr => ∃ i : Nat, i ≤ n ∧ v14 = .int .i64 (i : Int) ∧ Hid (∃ xs, OwnO wr 60 4 (.slice A n cap) n xs gl ∧ VX c.vols xs i ∧ Below w.heap.size w wr)) (fun v14 _ => n - (intOf v14).toNat)
  case atStart => exact ⟨0, Nat.zero_le _, rfl, HS0⟩
  case round =>
    clear HS0
    obtain ⟨i, hi, rfl, HJ⟩ := hrel
    obtain ⟨xs, O, X, B⟩ := HJ.out
    by_cases hlt : i < n
    · have hxl : xs.length = n * 4 := O.1
      obtain ⟨g, off, c9, e1, e2, e3, e4⟩ := O.cell (i * 4 + 2) (by omega)
      injection e1 with e1 _ e5
      subst e1 e5 e2
      have hgw := H1.out.2.1 g rfl
      have e9 : off + i * 4 + 2 = off + (i * 4 + 2) := by omega
      have HN := Lib.hid (And.intro (O.set (i * 4 + 2) (by omega) (.slice none 0 0)) (And.intro (X.next (by omega)) (show Below w.heap.size w (wr.setCell ⟨g, off + (i * 4 + 2), none⟩ (.slice none 0 0)) from B.grown (Shf.grown_set wr g _ _) B.size (fun k hk => by injection hk with hk; omega))))
      rw [← e9] at e3 HN
      obtain ⟨y, hy⟩ : ∃ y, y = xs[i * 4 + 2]'(by omega) := ⟨_, rfl⟩
      rw [← hy] at e3
      have hw1 : IntKind.i64.wrap ((i : Int) + 1) = ((i + 1 : Nat) : Int) := by rw [IntKind.wrap_i64]; have := HX0.out.2.2; omega
      have hjr : (i : Int) < (n : Int) := by omega
      have hf := e4 (off + i * 4 + 2)
      have HLT := Lib.hid hlt
      clear O X B HJ hy hxl e4 hgw e9 hi hlt
      go_wp2
      go_roundw
      case rel => exact ⟨i + 1, by have := HLT.out; omega, rfl, Lib.hid ⟨_, HN.out.1, HN.out.2.1, HN.out.2.2⟩⟩
      case measure => have := HLT.out; simp [intOf]; omega
    · obtain rfl : i = n := by omega
      have hjr : ¬ (i : Int) < (i : Int) := by omega
      have HE := Lib.hid (And.intro O (And.intro X B))
      clear O X B
      go_wp2
      go_ret
      first
        | exact ⟨A, cap, rfl, xs, gl, HE.out.1, HE.out.2.1, H1.out.2.1, HE.out.2.2⟩
        | exact ⟨A, cap, rfl, xs, ⟨gl, HE.out.1, HE.out.2.1, H1.out.2.1⟩, HE.out.2.2⟩
        | exact ⟨A, cap, rfl, xs, HE.out.2.1, ⟨gl, HE.out.1, H1.out.2.1⟩, HE.out.2.2⟩
        | exact ⟨A, cap, rfl, xs, ⟨gl, HE.out.1, H1.out.2.1⟩, HE.out.2.1, HE.out.2.2⟩
end Go.Proofs.YtdbhgkbmbbjpdaaGreatDoor.Chr
namespace Go.Proofs.YtdbhgkbmbbjpdaaGreatDoor.Chr
open Go.ChangeShapes Go.WideShapes Go.ChangeAt Go.RowKit
open Shf (S str)
open Coin (Rd Row Own sz coin got Pur takeV endV CoinSaid)
open Frm (pack err size kind cnt body noItem itemV OneSaid)
set_option maxRecDepth 8000
set_option linter.unusedVariables false
open Shf (Tag Ext Rep M RdN get Fine)
def rk (b : UInt8) : Nat × S := (107, byL b.toNat)
structure FZ (c : CD) (mo : Nat) (l : S) : Prop where
  hd : c.hF = 1 ∧ c.hB = 0 ∧ c.hU = 0 ∧ c.most = mo
  its : ∀ d ∈ c.vols, d.its.map itR = ((l.drop (d.first - 1)).take d.its.length).map rk
  next : c.next = l.length + 1
  nv : c.vols.length ≤ l.length
  ne : ∀ d ∈ c.vols, d.its ≠ []
  big : ∀ l0 d, c.vols = l0 ++ [d] → ∀ x ∈ l0, mo ≤ x.size
  pre : ∀ d ∈ c.vols, ∀ j, j < d.its.length → (titleB d.no d.first ++ itsB (d.its.take j)).length < mo
  sz : ∀ d ∈ c.vols, d.size ≤ 50 + 100 * l.length
  fs : ∀ d ∈ c.vols, d.next ≤ l.length + 1
  len : l.length ≤ 40
  mo20 : 20 ≤ mo
theorem fz_new (mo : Nat) (h : 20 ≤ mo) : FZ ⟨mo, 1, 0, 0, [], [], false⟩ mo [] :=
  ⟨⟨rfl, rfl, rfl, rfl⟩, fun d hd => (by cases hd), rfl, Nat.le_refl _, fun d hd => (by cases hd), fun l0 d e => by simp at e, fun d hd => (by cases hd), fun d hd => (by cases hd), fun d hd => (by cases hd), by simp, h⟩
theorem title_small (a b : Nat) (ha : a < 16384) (hb : b < 16384) : (titleB a b).length < 20 := by
  unfold titleB
  rw [Frm.length_pack]
  have h2 : ∀ n, n < 16384 → (coin n).length ≤ 2 := fun n hn => by
    rw [Coin.length_coin]
    unfold Coin.sz
    repeat' split
    all_goals omega
  have h3 : (coins [a, b]).length ≤ 4 := by
    have := h2 a ha
    have := h2 b hb
    unfold coins
    simp only [List.flatMap_cons, List.flatMap_nil, List.length_append, List.length_nil]
    omega
  have h4 : Coin.sz (coins [a, b]).length = 1 := by unfold Coin.sz; rw [if_pos (by omega)]
  omega
theorem FZ.more {c c' : CD} {m : M} {mo : Nat} {l : S} (h : FZ c mo l) (g : CG c m) {p : S} (b : UInt8) (hm : More c 107 p c') (hp : p = byL b.toNat) (hl : l.length < 40) : FZ c' mo (l ++ [b]) := by
  obtain ⟨_, ⟨s1, s2, s3, s4, s5, s6⟩, hlen, hnx, hsz⟩ := hm.mr
  have hll : (l ++ [b]).length = l.length + 1 := by simp
  have hx : ∀ a e, itR (⟨107, p, a, e⟩ : ItD) = rk b := fun a e => by unfold itR rk; rw [← hp]; rfl
  have hold : ∀ d ∈ c.vols, d.its.map itR = (((l ++ [b]).drop (d.first - 1)).take d.its.length).map rk := fun d hd => by
    have hf := (g.vo d hd).2.2
    have hn := h.fs d hd
    unfold VolD.next at hn
    rw [h.its d hd, take_more l b _ _ (by omega)]
  have hlast : ∀ d l0, c.vols = l0 ++ [d] → d.next = l.length + 1 := fun d l0 e => by
    have := h.next
    unfold CD.next at this
    rw [e, List.getLast?_append, List.getLast?_singleton] at this
    exact this
  have hno : c.nextNo = 1 + c.vols.length := by rw [nextNo_at g, h.hd.1]
  have hits : (∀ d ∈ c'.vols, (d.its.map itR = (((l ++ [b]).drop (d.first - 1)).take d.its.length).map rk ∧ d.next ≤ l.length + 2) ∧ d.its ≠ [] ∧ ∀ j, j < d.its.length → (titleB d.no d.first ++ itsB (d.its.take j)).length < mo) ∧ (∀ l0 d, c'.vols = l0 ++ [d] → ∀ x ∈ l0, mo ≤ x.size) := by
    rcases hm with ⟨l0, d0, e0, hlt, rfl⟩ | ⟨hge, rfl⟩
    · unfold atlC
      rw [if_pos rfl]
      refine ⟨fun d hd => ?_, fun l1 d1 e1 x hx1 => ?_⟩
      · have hd : d ∈ l0 ++ [_] := hd
        rcases List.mem_append.1 hd with hd | hd
        · have hd2 : d ∈ c.vols := by rw [e0]; exact List.mem_append_left _ hd
          exact ⟨⟨hold d hd2, by have := h.fs d hd2; omega⟩, h.ne d hd2, h.pre d hd2⟩
        · rw [List.mem_singleton.1 hd]
          have hd0 : d0 ∈ c.vols := by rw [e0]; simp
          have hn := hlast d0 l0 e0
          have hf := (g.vo d0 hd0).2.2
          have hvo := (volIs_of (g.vo d0 hd0).2.1).2
          unfold VolD.next at hn
          have hi := h.its d0 hd0
          refine ⟨⟨?_, by show d0.first + (d0.its ++ [_]).length ≤ _; rw [List.length_append]; simp only [List.length_cons, List.length_nil]; omega⟩, by simp, fun j hj => ?_⟩
          · show (d0.its ++ [_]).map itR = (((l ++ [b]).drop (d0.first - 1)).take (d0.its ++ [_]).length).map rk
            rw [List.map_append, List.length_append, List.length_cons, List.length_nil, take_last l b _ _ (by omega), List.map_append, hi]
            simp [hx]
          · show (titleB d0.no d0.first ++ itsB ((d0.its ++ [_]).take j)).length < mo
            have hj : j < (d0.its ++ [(⟨107, p, d0.size, d0.size + (pack 107 p).length⟩ : ItD)]).length := hj
            rw [List.length_append, List.length_cons, List.length_nil] at hj
            rw [List.take_append_of_le_length (by omega)]
            rcases Nat.lt_or_eq_of_le (show j ≤ d0.its.length by omega) with hj2 | hj2
            · exact h.pre d0 hd0 j hj2
            · rw [hj2, List.take_length]
              have := h.hd.2.2.2
              unfold volB at hvo
              omega
      · have e1 : l0 ++ [_] = l1 ++ [d1] := e1
        obtain ⟨e2, _⟩ := List.append_inj' e1 rfl
        rw [← e2] at hx1
        exact h.big l0 d0 e0 x hx1
    · unfold atlC
      rw [if_pos rfl]
      refine ⟨fun d hd => ?_, fun l1 d1 e1 x hx1 => ?_⟩
      · have hd : d ∈ c.vols ++ [_] := hd
        rcases List.mem_append.1 hd with hd | hd
        · exact ⟨⟨hold d hd, by have := h.fs d hd; omega⟩, h.ne d hd, h.pre d hd⟩
        · rw [List.mem_singleton.1 hd]
          have hn := h.next
          refine ⟨⟨?_, by show c.next + 1 ≤ _; omega⟩, by simp, fun j hj => ?_⟩
          · show [itR _] = (((l ++ [b]).drop (c.next - 1)).take 1).map rk
            rw [hn, Nat.add_sub_cancel, List.drop_left]
            simp [hx]
          · have hj : j < 1 := hj
            obtain rfl : j = 0 := by omega
            show (titleB c.nextNo c.next ++ []).length < mo
            rw [List.append_nil]
            have := title_small c.nextNo c.next (by have := h.nv; have := h.len; omega) (by have := h.len; omega)
            have := h.mo20
            omega
      · have e1 : c.vols ++ [_] = l1 ++ [d1] := e1
        obtain ⟨e2, _⟩ := List.append_inj' e1 rfl
        rw [← e2] at hx1
        by_cases hv : c.vols = []
        · rw [hv] at hx1; cases hx1
        · have e3 := List.dropLast_concat_getLast hv
          have e4 := hge _ _ e3.symm
          rw [← e3] at hx1
          rcases List.mem_append.1 hx1 with hx1 | hx1
          · exact h.big _ _ e3.symm x hx1
          · rw [List.mem_singleton.1 hx1]
            have := h.hd.2.2.2
            omega
  refine ⟨⟨s1.trans h.hd.1, s2.trans h.hd.2.1, s3.trans h.hd.2.2.1, s6.trans h.hd.2.2.2⟩, fun d hd => (hits.1 d hd).1.1, by rw [hnx, h.next, hll], by rw [hll]; have := h.nv; omega, fun d hd => (hits.1 d hd).2.1, hits.2, fun d hd => (hits.1 d hd).2.2, fun d hd => ?_, fun d hd => by rw [hll]; exact (hits.1 d hd).1.2, by omega, h.mo20⟩
  have h1 := hsz (50 + 100 * l.length) (by omega) h.sz d hd
  have h2 := byL_len b.toNat
  rw [Frm.length_pack] at h1
  have h3 := Coin.sz_le p.length
  rw [hll]
  rw [hp] at h1 h3
  omega
end Go.Proofs.YtdbhgkbmbbjpdaaGreatDoor.Chr
