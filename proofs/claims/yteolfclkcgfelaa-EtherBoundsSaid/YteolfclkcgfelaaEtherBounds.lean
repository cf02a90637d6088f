/-
  'For every input the Go function milestonelaw19.EtherBounds returns true, and each argument reads behind the call as it read before.'
  Conditions: none but the row's own (linux/amd64, sizes of what is read within the address space).
-/
import Derived.Test.YteolfclkcgfelaaRows
import Derived.WalkKit
import Derived.ProofKit
import Derived.OpenShut
import Derived.ShutString
import Derived.ChangeOld
import Derived.Below
import Derived.Lib.SmallJoins
import Derived.Lib.Hide
import Derived.Test.YteolfclkcgfelaaEn
namespace Go.Proofs.Yteolfclkcgfelaa.etherBounds
open Eth
open Coin
open Go.ChangeShapes Go.WideShapes Go.ChangeAt Go.RowKit
open Go.ChangeMaps (open_string shut_string)
set_option linter.unusedVariables false

theorem own : ownKnob Try.prog.godebug = none := by kernel_rfl
theorem laidOut : laidOutB Try.prog = true := by kernel_rfl

set_option maxRecDepth 8000
/-- What the walk is told of a slice of integers that came in. -/
def IsRow (k : IntKind) (w : World) (a : Option Addr) (len cap : Nat) (zs : List Int) : Prop :=
  (a = none ∧ len = 0 ∧ cap = 0 ∧ zs = []) ∨
  ∃ x, a = some x ∧ len ≤ cap ∧ cap ≤ maxLen ∧ zs.length = cap ∧ (∀ i, i < zs.length → w.cell? (x.add i) = some (.int k (zs.getD i 0))) ∧ ∀ n ∈ zs, (Lit.int k n).wf = true

theorem bytes_of {w : World} {a : Option Addr} {len cap : Nat} {z : List Int} (h : IsRow .u8 w a len cap z) : ∃ l : List UInt8, len = l.length ∧ len ≤ maxLen ∧ len ≤ cap ∧ Rd w w.heap.size a l ∧ (a = none → cap = 0) := by
  rcases h with ⟨rfl, rfl, rfl, rfl⟩ | ⟨x, rfl, h1, h2, h3, h4, h5⟩
  · exact ⟨[], rfl, by unfold maxLen; omega, Nat.le_refl _, Rd.nil _ _ _, fun _ => rfl⟩
  · refine ⟨(z.take len).map fun n => UInt8.ofNat n.toNat, by simp; omega, by omega, h1, fun h0 => ⟨x, rfl, ?_, fun j hj => ?_⟩, fun h => by cases h⟩
    · have hc := h4 0 (by simp at h0; omega)
      have := block_lt_of_cell hc
      rwa [Coin.block_add] at this
    · simp at hj
      have hz : z[j] ∈ z := List.getElem_mem _
      have hb := bounds_u8 (h5 _ hz)
      have hc := h4 j (by omega)
      have e : z.getD j 0 = z[j] := by rw [List.getD_eq_getElem?_getD, List.getElem?_eq_getElem]; rfl
      rw [e] at hc
      rw [hc]
      simp only [List.getElem_map, List.getElem_take, b8]
      congr 2
      simp; omega

set_option maxHeartbeats 64000000 in
theorem walk (a0 : Int) (a1 : Int) (a2 : Option Addr) (len2 cap2 : Nat) (z2 : List Int) (a3 : Int) (w : World) (w0 : (Lit.int .i64 a0).wf = true) (w1 : (Lit.int .i64 a1).wf = true) (w2 : IsRow .u8 w a2 len2 cap2 z2) (w3 : (Lit.int .i64 a3).wf = true) :
    Calls Try.prog 5 #[.int .i64 a0, .int .i64 a1, .slice a2 len2 cap2, .int .i64 a3] w fun e w' => e = .returned (.bool true) ∧ Below w.heap.size w w' := by
  skip
  obtain ⟨d, hd, _, hcap, hr, hA⟩ := bytes_of w2
  clear w2
  by_cases h60 : len2 = 0 ∨ 60 < len2
  · rcases Nat.eq_zero_or_pos len2 with h0 | h0
    · subst h0
      clear hd hr hA hcap h60
      go_enter Try.func5, Try.ntmps5
      go_wp2_with fail
      refine (awake_any _).mono ?_
      rintro e wa ⟨rfl, h1⟩
      go_wp2_with fail
      refine (awake_any _).mono ?_
      rintro e wb ⟨rfl, h2⟩
      go_wp2_with fail
      go_ret
      exact ⟨rfl, h1.trans (h2.mono h1.size)⟩
    · have hz : ¬ len2 = 0 := by omega
      have hd9 : decide ((60 : Int) < (len2 : Int)) = true := by simp; omega
      clear hd hr hA hcap h60
      go_enter Try.func5, Try.ntmps5
      go_wp2_with fail
      refine (awake_any _).mono ?_
      rintro e wa ⟨rfl, h1⟩
      go_wp2_with fail
      refine (awake_any _).mono ?_
      rintro e wb ⟨rfl, h2⟩
      go_wp2_with fail
      go_ret
      exact ⟨rfl, h1.trans (h2.mono h1.size)⟩
  have hz : ¬ len2 = 0 := fun h => h60 (.inl h)
  have hd9 : decide ((60 : Int) < (len2 : Int)) = false := by simp; omega
  have hd0 : 0 < d.length := by omega
  obtain ⟨x0, hx0⟩ : ∃ x0, b8 d[0] = .int .u8 x0 := ⟨_, rfl⟩
  have HX := Lib.hid hx0
  obtain ⟨n, hn⟩ : ∃ n, n = len2 := ⟨_, rfl⟩
  subst hn
  have HD := Lib.hid (And.intro hd (And.intro (show n ≤ 60 by omega) hd0))
  have HRd := Lib.hid hr
  have HA := Lib.hid hA
  have HLen : Hid (([] : List UInt8).length + d.length ≤ 1000000) := Lib.hid (by have := HD.out.2.1; have := HD.out.1; simp; omega)
  have hn60 : n ≤ 60 := HD.out.2.1
  have hn0 : 0 < n := by omega
  clear hd hr hA hx0 h60 hcap z2
  by_cases hR : isN a0 = true ∧ isN a1 = true ∧ a0 ≠ a1
  · obtain ⟨a, rfl, ha⟩ := isN_of hR.1
    obtain ⟨b, rfl, hb⟩ := isN_of hR.2.1
    have hab : a ≠ b := fun e => hR.2.2 (by rw [e])
    have ha1 : (a : Int) < 16 := by omega
    have hb1 : (b : Int) < 16 := by omega
    have hab1 : ¬ (a : Int) = b := by omega
    have hab2 : ((a : Int) != (b : Int)) = true := by simp; omega
    obtain ⟨Ha, hHa⟩ : ∃ Ha, Ha = upd H0 a b true := ⟨_, rfl⟩
    clear hR
    have CJ : Hid (∀ W g, LW w.heap.size w W g H0 [] (.slice none 0 0) → Calls Try.prog 8 #[.pointer (some ⟨g, 0, none⟩), .int .i64 (a : Int), .int .i64 (b : Int), .bool true] W fun e w' => e = .returned (.int .i64 0) ∧ LW w.heap.size w w' g Ha [] (.slice none 0 0)) := Lib.hid fun W g h => by
      exact (join_lw h a b ha hb hab true).mono fun e w' ⟨h1, h2, h3⟩ => ⟨h1, hHa ▸ h2⟩
    have HS : Hid (∀ W L g b1 c1, LX w.heap.size L w W g Ha [] (.slice none 0 0) → Rd W W.heap.size (some ⟨b1, 0, none⟩) d → Calls Try.prog 9 #[.pointer (some ⟨g, 0, none⟩), .int .i64 (a : Int), .slice (some ⟨b1, 0, none⟩) n c1] W fun e w' => e = .returned (.int .i64 1) ∧ ∃ v', LX w.heap.size L w w' g Ha [⟨a, b, d⟩] v' ∧ EF W w' g (.slice none 0 0) v') := Lib.hid fun W L g b1 c1 h hr => by
      rw [HD.out.1]
      refine (Send_any h.e h.sz a ha (some ⟨b1, 0, none⟩) c1 W.heap.size d hr (fun h => by cases h) (fun h => by cases h) (by have := HD.out; omega) (by simp)).mono ?_
      rintro e w' ⟨v', h1, h2, h3, _⟩
      rw [snt_one Ha a b d hb (fun x _ => hHa ▸ upd_on hab x)] at h1 h2
      exact ⟨h1, v', h.ef h2 h3, h3⟩
    have HP : Hid (∀ W L g v, LX w.heap.size L w W g Ha [⟨a, b, d⟩] v → Calls Try.prog 11 #[.pointer (some ⟨g, 0, none⟩), .int .i64 a3] W fun e w' => ∃ u, e = .returned (.tuple #[.agg #[.int .i64 (a : Int), .int .i64 (b : Int), u], .int .i64 0]) ∧ Own w' W.heap.size u d ∧ Below W.heap.size W w') := Lib.hid fun W L g v h => by
      refine (Peek_any h.e (Nat.zero_lt_one) (by simp) (fun x hx => by rw [List.mem_singleton] at hx; subst hx; have := HD.out; show d.length ≤ 100000; omega) a3).mono ?_
      rintro e w' ⟨u, h1, h2, h3⟩
      have hz := plc_one a3
      simp only [List.length_cons, List.length_nil, Nat.zero_add, hz, List.getElem_cons_zero] at h1 h2
      exact ⟨u, h1, h2, h3⟩
    have HT : Hid (∀ W L g v, LX w.heap.size L w W g Ha [⟨a, b, d⟩] v → Calls Try.prog 13 #[.pointer (some ⟨g, 0, none⟩), .int .i64 a3] W fun e w' => ∃ u v', e = .returned (.tuple #[.agg #[.int .i64 (a : Int), .int .i64 (b : Int), u], .int .i64 0]) ∧ Own w' W.heap.size u d ∧ LX w.heap.size L w w' g Ha [] v' ∧ EF W w' g v v') := Lib.hid fun W L g v h => by
      refine (Take_any h.e (Nat.zero_lt_one) (by simp) (fun x hx => by rw [List.mem_singleton] at hx; subst hx; have := HD.out; show d.length ≤ 100000; omega) a3).mono ?_
      rintro e w' ⟨u, v', h1, h2, h3, h4⟩
      have hz := plc_one a3
      simp only [List.length_cons, List.length_nil, Nat.zero_add, hz, List.getElem_cons_zero] at h1 h2 h3
      exact ⟨u, v', h1, h2, h.ef h3 h4, h4⟩
    have HHa : Ha a b = true := by rw [hHa, upd_on hab]; simp
    have HHH := Lib.hid HHa
    clear HHa hHa
    go_enter Try.func5, Try.ntmps5
    go_upto_region 6 with (first
      | (go_at_call 7; (with_reducible refine (awake_any _).mono ?_); rintro e wa ⟨rfl, ha9⟩; have L0 := Lib.hid (LW.new ha9 ha9.size); clear ha9)
      | (refine arm_build rfl rfl ?_)
      | (refine arm_box rfl _ rfl rfl ?_)
      | (go_at_call 8; (with_reducible refine (CJ.out _ _ L0.out).mono ?_); rintro e wj ⟨rfl, hj9⟩; have LJ := Lib.hid hj9; clear hj9))
    clear L0 CJ
    generalize wa.heap.size = g at *
    have hRj := Lib.hid (HRd.out.below LJ.out.b (Nat.le_refl _))
    go_upto_region 9 with (first
      | (refine Coin.app_any rfl _ _ rfl wj.heap.size (.slice none 0 0) [] d a2 n cap2 w.heap.size rfl rfl (Own.nil _ _) hRj.out HD.out.1 HA.out HLen.out (Nat.le_refl _) wj.heap.size wj (Below.refl _ _) (Nat.le_refl _) ?_; intro v1 w1 O1 B1 G1; rw [List.nil_append] at O1; obtain ⟨b1, c1, hv1, q0, qf, qB, qlt, qrow, qrd⟩ := own_first O1 HD.out.2.2 x0 HX.out; rw [← HD.out.1] at hv1; subst hv1; have HQ := Lib.hid (And.intro qrd (And.intro qlt (And.intro qrow (And.intro qB q0)))); have L1 := Lib.hid (LX.of (LJ.out.step B1)); clear O1 G1 B1 qrd qB qlt qrow q0 qf)
      | (go_at_call 9; (with_reducible refine (HS.out _ _ _ _ _ L1.out HQ.out.1).mono ?_); rintro e w2 ⟨rfl, v2, L2, F2⟩; obtain ⟨cur, hcur⟩ := HQ.out.2.2.1; have hc2 := F2.kept L1.out.e hcur (by decide) (by decide); have q0 := (World.cell?_of_block (w := w1) (a := ⟨b1, 0, none⟩) (w' := w2) (hc2.trans hcur.symm)).trans HQ.out.2.2.2.2; have qf := frozen_of_row w2 b1 0 _ 5 hc2; have H2 := Lib.hid (fun u : Value => L2.low (k := b1) (Nat.le_trans LJ.out.le HQ.out.2.2.2.1) HQ.out.2.1 (L1.out.e.q_ne hcur (by decide)) 0 u); clear L2 F2 hcur hc2))
    have L3 := Lib.hid (H2.out (.int .u8 ((x0 + 1) % 256)))
    clear H2 q0 qf HQ L1 hRj
    generalize w2.setCell _ _ = w3 at *
    go_upto_region 12 with (go_at_call 11; go_loud (with_reducible refine (HP.out _ _ _ _ L3.out).mono ?_); rintro e w4 ⟨u, rfl, O4, B4⟩; obtain ⟨b2, c2, hu, u0, uf, uB, ult, urow, urd⟩ := own_first O4 HD.out.2.2 x0 HX.out; rw [← HD.out.1] at hu; subst hu; obtain ⟨cur, hcur⟩ := urow; have BA := (Below.refl w4.heap.size w4).alloc (Nat.le_refl _) (.cells #[.int .i64 (a : Int), .int .i64 (b : Int), .slice (some ⟨b2, 0, none⟩) n c2] 39); have RZ := heap_alloc_new w4 (.cells #[.int .i64 (a : Int), .int .i64 (b : Int), .slice (some ⟨b2, 0, none⟩) n c2] 39); obtain ⟨z0, z1, z2, zf⟩ := row3f RZ; obtain ⟨y0, y1, y2, yf⟩ := row3f (heap_alloc_new w4 (.cells #[.int .i64 0, .int .i64 0, .slice none 0 0] 39)); have u0' := (BA.cell (p := ⟨b2, 0, none⟩) ult).trans u0; have uf' := frozen_of_row _ b2 0 _ 5 ((BA.block b2 ult).trans hcur); have H4 := Lib.hid (And.intro (B4.trans (BA.mono B4.size)) (And.intro RZ (And.intro uB ult))); clear O4 B4 u0 uf uB ult urd hcur BA RZ)
    have H6 := Lib.hid (fun y : Value => And.intro (L3.out.step (H4.out.1.setCell (p := ⟨b2, 0, none⟩) H4.out.2.2.1 y)) (And.intro ((put_ne (g := b2) (k := w4.heap.size) 0 y (by have := H4.out.2.2.2; omega)).trans H4.out.2.1) (Nat.lt_of_lt_of_le (Nat.lt_of_le_of_lt H4.out.2.2.1 H4.out.2.2.2) (Nat.le_refl _))))
    have H6 := Lib.hid (H6.out (.int .u8 ((x0 + 1) % 256)))
    clear z0 z1 z2 zf y0 y1 y2 yf u0' uf' H4
    generalize w4.heap.size = z at *
    generalize (w4.alloc _).setCell _ _ = w6 at *
    go_upto_region 14 with (go_at_call 13; (with_reducible refine (HT.out _ _ _ _ H6.out.1).mono ?_); rintro e w7 ⟨u, v7, rfl, O7, L7, F7⟩; obtain ⟨b3, c3, hu, -, -, uB, ult, urow, urd⟩ := own_first O7 HD.out.2.2 x0 HX.out; rw [← HD.out.1] at hu; subst hu; have hgz := L3.out.e.lt; have hvz := fun y hy => (L3.out.e.sl.ty (g := y) hy).2.1; have h36 := H6.out.2.2; have hz6 := (Array.getElem?_eq_some_iff.1 H6.out.2.1).1; have RZ := (F7.block z hz6 (by omega) (fun e => by have := hvz _ e.symm; omega)).trans H6.out.2.1; obtain ⟨z0, z1, z2, zf⟩ := row3f RZ; have H8 := Lib.hid (And.intro (put39 RZ (.int .i64 (a : Int)) (.int .i64 (b : Int)) (.slice (some ⟨b3, 0, none⟩) n c3)) (And.intro ((puts_ne (.int .i64 (a : Int)) (.int .i64 (b : Int)) (.slice (some ⟨b3, 0, none⟩) n c3) (show g ≠ z by omega)).trans L7.e.row) (And.intro (below3 L7.b (show w.heap.size ≤ z by have := L3.out.le; have := L3.out.sz; omega) (.int .i64 (a : Int)) (.int .i64 (b : Int)) (.slice (some ⟨b3, 0, none⟩) n c3)) (own_keep O7 (fun y hy => by have := own_ty O7 hy; exact puts_ne (.int .i64 (a : Int)) (.int .i64 (b : Int)) (.slice (some ⟨b3, 0, none⟩) n c3) (show y ≠ z by omega)))))); clear O7 L7 F7 uB ult urow urd hgz hvz RZ)
    clear z0 z1 z2 zf H6 L3 HP HT HS
    generalize ((w7.setCell _ _).setCell _ _).setCell _ _ = w8 at *
    have CT := fun (w : World) => Take_nil w a3
    have CP := fun (w : World) => Peek_nil w a3
    unfold zeroP at CT CP
    have CJ := fun (w : World) => join_nil w 0 1 true
    have CS := fun (w : World) => Send_nil w 0 a2 n cap2
    have CLo := fun (w : World) => Lose_nil w a3
    have CD := fun (w : World) => Double_nil w a3
    have CL := len_nil
    have CH := fun (w : World) => hears_nil w 0 1
    go_upto_region 15 with (go_at_call 13; (with_reducible refine (CT _).mono ?_); rintro e w9 ⟨rfl, B9⟩; obtain ⟨z0, z1, z2, zf⟩ := row3f (heap_alloc_new w9 (.cells #[.int .i64 0, .int .i64 0, .slice none 0 0] 39)); have H9 := Lib.hid (B9.alloc B9.size (.cells #[.int .i64 0, .int .i64 0, .slice none 0 0] 39)); clear B9)
    clear z0 z1 z2 zf
    generalize w9.heap.size = y9 at *
    generalize w9.alloc _ = wa at *
    go_upto_region 16 with (go_at_call 11; (with_reducible refine (CP _).mono ?_); rintro e wb ⟨rfl, Bb⟩; obtain ⟨z0, z1, z2, zf⟩ := row3f (heap_alloc_new wb (.cells #[.int .i64 0, .int .i64 0, .slice none 0 0] 39)); have Hb := Lib.hid (Bb.alloc Bb.size (.cells #[.int .i64 0, .int .i64 0, .slice none 0 0] 39)); clear Bb)
    clear z0 z1 z2 zf CT CP
    generalize wb.heap.size = yb at *
    generalize wb.alloc _ = wc at *
    have BB := H9.out.trans (Hb.out.mono H9.out.size)
    have hz8 := (Array.getElem?_eq_some_iff.1 H8.out.1).1
    have hg8 := (Array.getElem?_eq_some_iff.1 H8.out.2.1).1
    have HF := Lib.hid (And.intro ((BB.block z hz8).trans H8.out.1) (And.intro ((BB.block g hg8).trans H8.out.2.1) (H8.out.2.2.1.trans (BB.mono H8.out.2.2.1.size))))
    have O8 := own_keep H8.out.2.2.2 (fun y hy => BB.block y (own_ty H8.out.2.2.2 hy).2.1)
    obtain ⟨A3, c3', e3, r3, -⟩ := Own.form (show Own wc _ _ d from O8)
    rw [← HD.out.1] at e3
    injection e3 with e31 _ e32
    subst e31 e32
    have k1 := conv_any r3 n c3 HD.out.1
    have k2 := conv_any (HRd.out.below HF.out.2.2 (Nat.le_refl _)) n cap2 HD.out.1
    clear O8 r3
    obtain ⟨z0, z1, z2, -⟩ := row3f HF.out.1
    have CX := HHH.out ▸ hears_row HF.out.2.1 a b ha hb
    clear BB hz8 hg8 H8 H9 Hb
    go_wp2_with (first
      | (go_at_call 15; (with_reducible refine CX.mono ?_); rintro e wf ⟨rfl, rfl⟩)
      | (go_at_call 8; (with_reducible refine (CJ _).mono ?_); rintro e wf ⟨rfl, rfl⟩)
      | (go_at_call 9; (with_reducible refine (CS _).mono ?_); rintro e wf ⟨rfl, rfl⟩)
      | (go_at_call 12; (with_reducible refine (CLo _).mono ?_); rintro e wf ⟨rfl, rfl⟩)
      | (go_at_call 10; (with_reducible refine (CD _).mono ?_); rintro e wf ⟨rfl, rfl⟩)
      | (go_at_call 14; (with_reducible refine (CL _).mono ?_); rintro e wf ⟨rfl, rfl⟩)
      | (go_at_call 15; (with_reducible refine (CH _).mono ?_); rintro e wf ⟨rfl, rfl⟩))
    go_ret
    exact ⟨rfl, HF.out.2.2⟩
  · skip
    have CJ : Hid (∀ W g, LW w.heap.size w W g H0 [] (.slice none 0 0) → Calls Try.prog 8 #[.pointer (some ⟨g, 0, none⟩), .int .i64 a0, .int .i64 a1, .bool true] W fun e w' => e = .returned (.int .i64 1) ∧ LW w.heap.size w w' g H0 [] (.slice none 0 0)) := Lib.hid fun W g h => by
      refine (join_not W g a0 a1 true hR).mono ?_
      rintro e w' ⟨rfl, rfl⟩
      exact ⟨rfl, h⟩
    have HS : Hid (∀ W L g b1 c1, LX w.heap.size L w W g H0 [] (.slice none 0 0) → Rd W W.heap.size (some ⟨b1, 0, none⟩) d → Calls Try.prog 9 #[.pointer (some ⟨g, 0, none⟩), .int .i64 a0, .slice (some ⟨b1, 0, none⟩) n c1] W fun e w' => e = .returned (.int .i64 0) ∧ ∃ v', LX w.heap.size L w w' g H0 [] v' ∧ EF W w' g (.slice none 0 0) v') := Lib.hid fun W L g b1 c1 h hr => by
      rw [HD.out.1]
      exact send_none h a0 (some ⟨b1, 0, none⟩) c1 W.heap.size d hr (fun h => by cases h) (fun h => by cases h) (by have := HD.out; omega)
    have HP : Hid (∀ W L g v, LX w.heap.size L w W g H0 [] v → Calls Try.prog 11 #[.pointer (some ⟨g, 0, none⟩), .int .i64 a3] W fun e w' => e = .returned (.tuple #[.agg #[.int .i64 0, .int .i64 0, .slice none 0 0], .int .i64 2]) ∧ Below W.heap.size W w') := Lib.hid fun W L g v h => Peek_none h.e a3
    have HT : Hid (∀ W L g v, LX w.heap.size L w W g H0 [] v → Calls Try.prog 13 #[.pointer (some ⟨g, 0, none⟩), .int .i64 a3] W fun e w' => e = .returned (.tuple #[.agg #[.int .i64 0, .int .i64 0, .slice none 0 0], .int .i64 2]) ∧ Below W.heap.size W w') := Lib.hid fun W L g v h => Take_none h.e a3
    go_enter Try.func5, Try.ntmps5
    go_upto_region 5 with (first
      | (go_at_call 7; (with_reducible refine (awake_any _).mono ?_); rintro e wa ⟨rfl, ha9⟩; have L0 := Lib.hid (LW.new ha9 ha9.size); clear ha9)
      | (refine arm_build rfl rfl ?_)
      | (refine arm_box rfl _ rfl rfl ?_)
      | (go_at_call 8; (with_reducible refine (CJ.out _ _ L0.out).mono ?_); rintro e wj ⟨rfl, hj9⟩; have LJ := Lib.hid hj9; clear hj9))
    clear L0 CJ
    generalize wa.heap.size = g at *
    go_cut [11] from 42 (fun v11 wx => v11 = .bool false ∧ wj = wx)
    case first =>
      have hc5 : a0 < 0 ∨ ¬ a0 < 16 ∧ 0 ≤ a0 ∨ a1 < 0 ∧ 0 ≤ a0 ∧ a0 < 16 ∨ ¬ a1 < 16 ∧ 0 ≤ a1 ∧ 0 ≤ a0 ∧ a0 < 16 ∨ a0 = a1 ∧ 0 ≤ a0 ∧ a0 < 16 := by
        by_cases h1 : 0 ≤ a0
        · by_cases h2 : a0 < 16
          · by_cases h3 : 0 ≤ a1
            · by_cases h4 : a1 < 16
              · refine .inr (.inr (.inr (.inr ⟨Decidable.byContradiction fun h5 => hR ⟨decide_eq_true ⟨h1, h2⟩, decide_eq_true ⟨h3, h4⟩, h5⟩, h1, h2⟩)))
              · exact .inr (.inr (.inr (.inl ⟨h4, h3, h1, h2⟩)))
            · exact .inr (.inr (.inl ⟨by omega, h1, h2⟩))
          · exact .inr (.inl ⟨h2, h1⟩)
        · exact .inl (by omega)
      clear hR
      rcases hc5 with c1 | ⟨c1, c2⟩ | ⟨c1, c2, c3⟩ | ⟨c1, c2, c3, c4⟩ | ⟨rfl, c2, c3⟩
      all_goals
        go_wp2
        go_meet
        case rel => exact ⟨rfl, rfl⟩
    case rest =>
      obtain ⟨rfl, rfl⟩ := hcut
      have hRj := Lib.hid (HRd.out.below LJ.out.b (Nat.le_refl _))
      go_upto_region 9 with (first
        | (refine Coin.app_any rfl _ _ rfl wj.heap.size (.slice none 0 0) [] d a2 n cap2 w.heap.size rfl rfl (Own.nil _ _) hRj.out HD.out.1 HA.out HLen.out (Nat.le_refl _) wj.heap.size wj (Below.refl _ _) (Nat.le_refl _) ?_; intro v1 w1 O1 B1 G1; rw [List.nil_append] at O1; obtain ⟨b1, c1, hv1, q0, qf, qB, qlt, qrow, qrd⟩ := own_first O1 HD.out.2.2 x0 HX.out; rw [← HD.out.1] at hv1; subst hv1; have HQ := Lib.hid (And.intro qrd (And.intro qlt (And.intro qrow (And.intro qB q0)))); have L1 := Lib.hid (LX.of (LJ.out.step B1)); clear O1 G1 B1 qrd qB qlt qrow q0 qf)
        | (go_at_call 9; (with_reducible refine (HS.out _ _ _ _ _ L1.out HQ.out.1).mono ?_); rintro e w2 ⟨rfl, v2, L2, F2⟩; obtain ⟨cur, hcur⟩ := HQ.out.2.2.1; have hc2 := F2.kept L1.out.e hcur (by decide) (by decide); have q0 := (World.cell?_of_block (w := w1) (a := ⟨b1, 0, none⟩) (w' := w2) (hc2.trans hcur.symm)).trans HQ.out.2.2.2.2; have qf := frozen_of_row w2 b1 0 _ 5 hc2; have H2 := Lib.hid (fun u : Value => L2.low (k := b1) (Nat.le_trans LJ.out.le HQ.out.2.2.2.1) HQ.out.2.1 (L1.out.e.q_ne hcur (by decide)) 0 u); clear L2 F2 hcur hc2))
      have L3 := Lib.hid (H2.out (.int .u8 ((x0 + 1) % 256)))
      clear H2 q0 qf HQ L1 hRj
      generalize w2.setCell _ _ = w3 at *
      go_upto_region 12 with (go_at_call 11; go_loud (with_reducible refine (HP.out _ _ _ _ L3.out).mono ?_); rintro e w4 ⟨rfl, B4⟩; have BA := (Below.refl w4.heap.size w4).alloc (Nat.le_refl _) (.cells #[.int .i64 0, .int .i64 0, .slice none 0 0] 39); have RZ := heap_alloc_new w4 (.cells #[.int .i64 0, .int .i64 0, .slice none 0 0] 39); obtain ⟨z0, z1, z2, zf⟩ := row3f RZ; have H6 := Lib.hid (And.intro (L3.out.step (B4.trans (BA.mono B4.size))) (And.intro RZ B4.size)); clear B4 BA RZ)
      clear z0 z1 z2 zf
      generalize w4.heap.size = z at *
      generalize w4.alloc _ = w6 at *
      go_upto_region 14 with (go_at_call 13; (with_reducible refine (HT.out _ _ _ _ H6.out.1).mono ?_); rintro e w7 ⟨rfl, B7⟩; have hgz := L3.out.e.lt; have h36 := H6.out.2.2; have hz6 := (Array.getElem?_eq_some_iff.1 H6.out.2.1).1; have L7 := H6.out.1.step B7; have RZ := (B7.block z hz6).trans H6.out.2.1; obtain ⟨z0, z1, z2, zf⟩ := row3f RZ; have H8 := Lib.hid (And.intro (put39 RZ (.int .i64 0) (.int .i64 0) (.slice none 0 0)) (And.intro ((puts_ne (.int .i64 0) (.int .i64 0) (.slice none 0 0) (show g ≠ z by omega)).trans L7.e.row) (below3 L7.b (show w.heap.size ≤ z by have := L3.out.le; have := L3.out.sz; omega) (.int .i64 0) (.int .i64 0) (.slice none 0 0)))); clear B7 L7 hgz RZ)
      clear z0 z1 z2 zf H6 L3 HP HT HS
      generalize ((w7.setCell _ _).setCell _ _).setCell _ _ = w8 at *
      have CT := fun (w : World) => Take_nil w a3
      have CP := fun (w : World) => Peek_nil w a3
      unfold zeroP at CT CP
      have CJ := fun (w : World) => join_nil w 0 1 true
      have CS := fun (w : World) => Send_nil w 0 a2 n cap2
      have CLo := fun (w : World) => Lose_nil w a3
      have CD := fun (w : World) => Double_nil w a3
      have CL := len_nil
      have CH := fun (w : World) => hears_nil w 0 1
      go_upto_region 15 with (go_at_call 13; (with_reducible refine (CT _).mono ?_); rintro e w9 ⟨rfl, B9⟩; obtain ⟨z0, z1, z2, zf⟩ := row3f (heap_alloc_new w9 (.cells #[.int .i64 0, .int .i64 0, .slice none 0 0] 39)); have H9 := Lib.hid (B9.alloc B9.size (.cells #[.int .i64 0, .int .i64 0, .slice none 0 0] 39)); clear B9)
      clear z0 z1 z2 zf
      generalize w9.heap.size = y9 at *
      generalize w9.alloc _ = wa at *
      go_upto_region 16 with (go_at_call 11; (with_reducible refine (CP _).mono ?_); rintro e wb ⟨rfl, Bb⟩; obtain ⟨z0, z1, z2, zf⟩ := row3f (heap_alloc_new wb (.cells #[.int .i64 0, .int .i64 0, .slice none 0 0] 39)); have Hb := Lib.hid (Bb.alloc Bb.size (.cells #[.int .i64 0, .int .i64 0, .slice none 0 0] 39)); clear Bb)
      clear z0 z1 z2 zf CT CP
      generalize wb.heap.size = yb at *
      generalize wb.alloc _ = wc at *
      have BB := H9.out.trans (Hb.out.mono H9.out.size)
      have hz8 := (Array.getElem?_eq_some_iff.1 H8.out.1).1
      have hg8 := (Array.getElem?_eq_some_iff.1 H8.out.2.1).1
      have HF := Lib.hid (And.intro ((BB.block z hz8).trans H8.out.1) (And.intro ((BB.block g hg8).trans H8.out.2.1) (H8.out.2.2.trans (BB.mono H8.out.2.2.size))))
      have CX := hears_zero HF.out.2.1 a0 a1
      clear BB hz8 hg8 H8 H9 Hb
      go_wp2_with (first
        | (go_at_call 15; (with_reducible refine CX.mono ?_); rintro e wf ⟨rfl, rfl⟩)
        | (go_at_call 8; (with_reducible refine (CJ _).mono ?_); rintro e wf ⟨rfl, rfl⟩)
        | (go_at_call 9; (with_reducible refine (CS _).mono ?_); rintro e wf ⟨rfl, rfl⟩)
        | (go_at_call 12; (with_reducible refine (CLo _).mono ?_); rintro e wf ⟨rfl, rfl⟩)
        | (go_at_call 10; (with_reducible refine (CD _).mono ?_); rintro e wf ⟨rfl, rfl⟩)
        | (go_at_call 14; (with_reducible refine (CL _).mono ?_); rintro e wf ⟨rfl, rfl⟩)
        | (go_at_call 15; (with_reducible refine (CH _).mono ?_); rintro e wf ⟨rfl, rfl⟩))
      go_ret
      exact ⟨rfl, HF.out.2.2⟩

set_option maxRecDepth 100000 in
theorem lifted (os : Os) (started : os.Started) (H : Type) (enc : TypeId × Value → H) :
    ReturnsInHanded {} Try.checked os 5 .any (Rows.etherBoundsSpec.pre6 enc Try.prog Try.f5 Rows.etherBoundsRow.domain false) (Rows.etherBoundsSpec.post enc Try.prog Try.f5 false true false false) := by
  refine returnsInHanded_of_change (C := Try.checked) own started (by kernel_rfl) Try.func5
    (ChangeSpec.witness6 (enc := enc) (C := Try.checked) false ⟨#[], #[.int .i64 0, .int .i64 0, .slice none 0 0, .int .i64 0], []⟩ 8 (by kernel_rfl) (by kernel_rfl) (by kernel_rfl) (by kernel_rfl)) ?_
  intro W base args ds gs before hval0 hW hcnd _
  have hval : ∀ (j : Nat) t v, Try.f5.params[j]? = some t → args[j]? = some v → Value.okWide Try.prog W .any base t v := hval0
  have hW' := hW
  obtain ⟨p, q, hA0, hV, rfl, hfz, hnd⟩ := hW
  have hA : DataW.TrodAll enc Try.prog W 0 (fun _ => true) true Try.f5.params.toList args.toList ds p := hA0
  rw [Try.params5] at hA hval
  obtain ⟨v0, vs0, d0, ds0, p0, q0, hargs, rfl, rfl, h0, r0⟩ := trodAll_cons hA
  obtain ⟨v1, vs1, d1, ds1, p1, q1, rfl, rfl, rfl, h1, r1⟩ := trodAll_cons r0
  obtain ⟨v2, vs2, d2, ds2, p2, q2, rfl, rfl, rfl, h2, r2⟩ := trodAll_cons r1
  obtain ⟨v3, vs3, d3, ds3, p3, q3, rfl, rfl, rfl, h3, r3⟩ := trodAll_cons r2
  obtain ⟨rfl, rfl, rfl⟩ := trodAll_nil r3
  obtain rfl : args = #[v0, v1, v2, v3] := by cases args; simp_all
  obtain ⟨rfl, rfl⟩ := trodVars_none hV
  obtain ⟨a0, rfl, rfl, rfl, w0⟩ := open_int Try.underlying3 (hval 0 3 v0 rfl rfl) h0
  obtain ⟨a1, rfl, rfl, rfl, w1⟩ := open_int Try.underlying3 (hval 1 3 v1 rfl rfl) h1
  obtain ⟨a2, len2, cap2, rfl⟩ := okWide_slice Try.underlying37 (hval 2 37 v2 rfl rfl)
  have k2 := h2
  have lt2 : ∀ x ∈ p2, x.block < W.heap.size := by obtain ⟨m, hm⟩ := k2; exact DataW.trod_lt m _ _ _ hm
  obtain ⟨z2, w2⟩ : ∃ zs, IsRow .u8 W a2 len2 cap2 zs := by
    obtain ⟨fuel, hf⟩ := h2
    rcases open_ints Try.underlying37 Try.underlying5 (by kernel_rfl) hf with ⟨hcs, _⟩ | ⟨x, l, c, zs, hcs, _, hl, hm, hz, _, hcell, hwz⟩
    · simp [Value.cells] at hcs
      obtain ⟨rfl, rfl, rfl⟩ := hcs
      exact ⟨[], .inl ⟨rfl, rfl, rfl, rfl⟩⟩
    · simp [Value.cells] at hcs
      obtain ⟨rfl, rfl, rfl⟩ := hcs
      exact ⟨zs, .inr ⟨_, rfl, hl, hm, by simpa using hz, hcell, hwz⟩⟩
  obtain ⟨a3, rfl, rfl, rfl, w3⟩ := open_int Try.underlying3 (hval 3 3 v3 rfl rfl) h3
  clear hA0 hval0
  refine (walk a0 a1 a2 len2 cap2 z2 a3 W w0 w1 w2 w3).mono fun e W' ⟨he, bel⟩ => ?_
  subst he
  exact ⟨_, rfl, _, _, _, [], _, [], hW', trodAll_mk1 (shut_bool Try.underlying4 _), (trodAll_cons_mk (shut_int Try.underlying3 w0) (trodAll_cons_mk (shut_int Try.underlying3 w1) (trodAll_cons_mk (Below.trod laidOut (by kernel_rfl) (of_decide_eq_true (by kernel_rfl)) k2 bel lt2) (trodAll_cons_mk (shut_int Try.underlying3 w3) trodAll_mk0)))), rfl, bel.frame _, fun h => by cases h⟩

theorem over : Rows.etherBoundsRow.holds Try.pinned (OpenSpec.ofChange Rows.etherBoundsSpec) :=
  OpenClaim.holds_of_wide 5 Try.f5 rfl rfl rfl rfl rfl rfl rfl ⟨rfl, rfl, rfl, rfl, rfl⟩ rfl rfl rfl rfl rfl (by kernel_rfl) Try.func5 (by kernel_rfl)
    (of_decide_eq_true (by kernel_rfl)) (by unfold Func.isWrapper; first | (rw [if_pos (by decide +kernel)]; kernel_rfl) | (rw [if_neg (by decide +kernel)]; exact ⟨rfl, rfl⟩))
    (fun os started H enc _ => lifted os started H enc)

theorem proved : Rows.EtherBoundsSaid := over
#print axioms proved
end Go.Proofs.Yteolfclkcgfelaa.etherBounds
