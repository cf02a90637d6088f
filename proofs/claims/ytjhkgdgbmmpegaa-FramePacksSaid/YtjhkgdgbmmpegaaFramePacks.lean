/-
  'For every input the Go function milestonelaw06.FramePacks returns true, and each argument reads behind the call as it read before.'
  Conditions: none but the row's own (linux/amd64, sizes of what is read within the address space).
-/
import Derived.Test.YtjhkgdgbmmpegaaRows
import Derived.WalkKit
import Derived.ProofKit
import Derived.OpenShut
import Derived.ShutString
import Derived.ChangeOld
import Derived.Below
import Derived.Lib.SmallJoins
import Derived.Lib.Hide
import Derived.Test.YtjhkgdgbmmpegaaFLw
namespace Go.Proofs.Ytjhkgdgbmmpegaa.framePacks
open Go.Proofs.Ytjhkgdgbmmpegaa.Frm
open Coin (b8 Rd Row Own sz coin got str)
open Go.ChangeShapes Go.WideShapes Go.ChangeAt Go.RowKit
open Go.ChangeMaps (open_string shut_string)
set_option linter.unusedVariables false

theorem own : ownKnob Try.prog.godebug = none := by kernel_rfl
theorem laidOut : laidOutB Try.prog = true := by kernel_rfl

theorem wpAnyH_mono {P : Program} {md : Region.Mode} {ops : Array Oper} {Q : Exit → Act → World → Prop} {S S' : World → Prop} (h : ∀ w, S' w → S w) :
    ∀ (fuel : Nat) (listed : Array Bool) (a : Act) (w : World), wpAnyH P md ops Q S' fuel listed a w → wpAnyH P md ops Q S fuel listed a w
  | 0, _, _, _, H => H
  | fuel + 1, _, _, _, H => ⟨H.1, fun i hi => wpOp_mono (fun _ _ h' => ⟨h _ h'.1, wpAnyH_mono h fuel _ _ _ h'.2⟩) (H.2 i hi)⟩

set_option maxHeartbeats 4000000 in
set_option maxRecDepth 100000 in
theorem walk (a0 : Int) (a1 : Option Addr) (len1 cap1 : Nat) (z1 : List Int) (a2 : Option Addr) (len2 cap2 : Nat) (z2 : List Int) (a3 : Option Addr) (len3 cap3 : Nat) (z3 : List Int) (w : World) (w0 : (Lit.int .u8 a0).wf = true) (w1 : IsRow .u8 w a1 len1 cap1 z1) (w2 : IsRow .u8 w a2 len2 cap2 z2) (w3 : IsRow .u8 w a3 len3 cap3 z3) :
    Calls Try.prog 3 #[.int .u8 a0, .slice a1 len1 cap1, .slice a2 len2 cap2, .slice a3 len3 cap3] w fun e w' => e = .returned (.bool true) ∧ Below w.heap.size w w' := by
  obtain ⟨p, hp1, hp2, hp3, RP, hpn⟩ := bytes_of w1
  obtain ⟨p2, hq1, hq2, hq3, RA, han⟩ := bytes_of w2
  obtain ⟨p3, hr1, hr2, hr3, RB, hbn⟩ := bytes_of w3
  have k0 := bounds_u8 w0
  clear w0 w1 w2 w3
  unfold maxLen at hp2 hq2 hr2
  subst hp1 hq1 hr1
  obtain ⟨kd0, rfl⟩ := Int.eq_ofNat_of_zero_le k0.1
  obtain ⟨kd, rfl⟩ : ∃ kd : UInt8, kd0 = kd.toNat := ⟨UInt8.ofNat kd0, by rw [UInt8.toNat_ofNat']; omega⟩
  clear k0
  by_cases g1 : 300 < p.length ∨ 50 < p2.length ∨ 50 < p3.length
  · have g1' : (300 : Int) < p.length ∨ (¬ (300 : Int) < p.length ∧ (50 : Int) < p2.length) ∨ (¬ (300 : Int) < p.length ∧ ¬ (50 : Int) < p2.length ∧ (50 : Int) < p3.length) := by omega
    clear g1
    generalize p.length = m at *
    generalize p2.length = m2 at *
    generalize p3.length = m3 at *
    rcases g1' with g1 | ⟨g1, g2⟩ | ⟨g1, g2, g3⟩
    all_goals
      go_enter Try.func3, Try.ntmps3
      go_wp2_with fail
      refine (awake_any _).mono ?_
      rintro e w1 ⟨rfl, h1⟩
      go_wp2_with fail
      refine (awake_any _).mono ?_
      rintro e w2 ⟨rfl, h2⟩
      go_wp2_with fail
      go_ret
      exact ⟨rfl, h1.trans (h2.mono h1.size)⟩
  have g1' : ¬ (300 : Int) < p.length := by omega
  have g2' : ¬ (50 : Int) < p2.length := by omega
  have g3' : ¬ (50 : Int) < p3.length := by omega
  have hlp := length_pack kd p
  have hs := Coin.sz_le p.length
  have cp : ∀ W, Below w.heap.size w W → Calls Try.prog 8 #[.int .u8 (kd.toNat : Int), .slice a1 p.length cap1] W (Coin.CoinSaid W (pack kd p)) := fun W h => pack_any kd a1 cap1 p W (by omega) ((RP.below h (Nat.le_refl _)).more h.size) hpn
  have cr : ∀ W, Below w.heap.size w W → Calls Try.prog 10 #[.int .u8 (kd.toNat : Int), .slice a1 p.length cap1] W (Coin.CoinOwn W (pack kd p)) := fun W h => rpack_any kd a1 cap1 p W (by omega) ((RP.below h (Nat.le_refl _)).more h.size) hpn
  have cs := fsize_any p.length (by omega)
  rw [← hlp] at cs
  have hep := err_pack kd p p3 (by omega)
  have hct := (of_pack kd p p3 (by omega)).2.1
  generalize pack kd p = P at *
  have hdrop : (p2 ++ P ++ p3).drop p2.length = P ++ p3 := by rw [List.append_assoc, List.drop_left]
  have hall : (p2 ++ P ++ p3).length = p2.length + P.length + p3.length := by simp; omega
  obtain ⟨L, hL⟩ : ∃ L, L = P.length := ⟨_, rfl⟩
  rw [← hL] at hall cs hlp hep
  obtain ⟨m, hm⟩ : ∃ m, m = p.length := ⟨_, rfl⟩
  obtain ⟨m2, hm2⟩ : ∃ m2, m2 = p2.length := ⟨_, rfl⟩
  obtain ⟨m3, hm3⟩ : ∃ m3, m3 = p3.length := ⟨_, rfl⟩
  have hL9 : L ≤ 400 := by omega
  have hL5 : 5 ≤ L := by omega
  rw [← hm] at g1' cp cr cs hct ⊢
  rw [← hm2] at g2' hall hdrop hq3 ⊢
  rw [← hm3] at g3' hall hr3 ⊢
  have hm9 : m ≤ 300 ∧ m2 ≤ 50 ∧ m3 ≤ 50 := by omega
  have HL := Lib.hid hL
  have HM := Lib.hid hm
  have HM2 := Lib.hid hm2
  have HM3 := Lib.hid hm3
  have HALL := Lib.hid hall
  have HD := Lib.hid hdrop
  have HEP := Lib.hid hep
  have HCT := Lib.hid hct
  have CR : Hid (∀ W, Below w.heap.size w W → Calls Try.prog 10 #[.int .u8 (kd.toNat : Int), .slice a1 m cap1] W (Coin.CoinOwn W P)) := cr
  have CS : Hid (∀ W : World, Calls Try.prog 11 #[.int .i64 m] W fun e w' => e = .returned (.int .i64 (L : Int)) ∧ W = w') := cs
  clear hL hm hm2 hm3 hall hdrop hlp hep hct cr cs g1 hp2 hq2 hr2
  go_enter Try.func3, Try.ntmps3
  go_wp2_with fail
  refine (awake_any _).mono ?_
  rintro e wa ⟨rfl, ha⟩
  go_wp2_with fail
  refine (cp _ ha).mono ?_
  rintro e wb ⟨Af, cf, rfl, RF, hcf, hb⟩
  rw [← HL.out] at hcf ⊢
  have hAf : Af = none → cf = 0 := fun h => by
    obtain ⟨ad, e, _⟩ := RF (by rw [← HL.out]; omega)
    rw [h] at e; cases e
  have bb : Below w.heap.size w wb := ha.trans (hb.mono ha.size)
  have sb := bb.size
  have RA1 := RA.below bb (Nat.le_refl _)
  have O0 := Coin.Own.nil wb wb.heap.size
  have l1 : ([] : List UInt8).length + p2.length ≤ 1000000 := by rw [← HM2.out]; simp; omega
  go_wp2_with (first
    | (at_builtin; with_reducible refine Coin.app_any rfl (.const (.slice none 0 0)) (.tmp 34) rfl wb.heap.size (.slice none 0 0) [] p2 a2 m2 cap2 w.heap.size rfl rfl O0 RA1 HM2.out han l1 (Nat.le_refl _) wb.heap.size wb (Below.refl _ _) (Nat.le_refl _) ?_; intro v1 w1 O1 B1 G1; rw [List.nil_append] at O1; have R1 := RF.below B1 (Nat.le_refl _); have s1 := B1.size; have l2 : p2.length + P.length ≤ 1000000 := (by rw [← HM2.out, ← HL.out]; omega))
    | (at_builtin; with_reducible refine Coin.app_any rfl (.tmp 35) (.tmp 36) rfl wb.heap.size v1 p2 P Af L cf wb.heap.size rfl rfl O1 R1 HL.out hAf l2 s1 wb.heap.size wb B1 (Nat.le_refl _) ?_; intro v2 w2 O2 B2 G2; have R2 := RB.below (bb.trans (B2.mono sb)) (Nat.le_refl _); have s2 := B2.size; have l3 : (p2 ++ P).length + p3.length ≤ 1000000 := (by rw [List.length_append, ← HM2.out, ← HL.out, ← HM3.out]; omega))
    | (at_builtin; with_reducible refine Coin.app_any rfl (.tmp 37) (.tmp 38) rfl wb.heap.size v2 (p2 ++ P) p3 a3 m3 cap3 w.heap.size rfl rfl O2 R2 HM3.out hbn l3 s2 wb.heap.size wb B2 (Nat.le_refl _) ?_; intro v3 w3 O3 B3 G3))
  obtain ⟨A3, c3, hv3, R3, hc3, hn3⟩ := O3.form
  have co := one_any A3 c3 _ m2 (p2 ++ P ++ p3) w3 (by rw [HALL.out]; omega) hc3 hn3 (by rw [HALL.out]; omega) (Nat.le_refl _) R3
  rw [← hv3] at co
  rw [HD.out] at co
  have RF3 := RF.below B3 (Nat.le_refl _)
  have co := Calls.mono' co (Q' := fun e w' => ∃ g, e = .returned (.tuple #[.agg #[.int .u8 (kd.toNat : Int), .slice (some ⟨g, 0, none⟩) m m, .int .i64 (m2 : Int), .int .i64 (m2 + L : Nat)], .int .i64 0]) ∧ Row w' g p ∧ Below w3.heap.size w3 w') (fun e w' h => by
    obtain ⟨g, h1, h2, _⟩ := h.2.1 HEP.out.1
    refine ⟨g, ?_, by rw [HEP.out.2.2.1] at h2; exact h2, h.2.2⟩
    rw [h1, HEP.out.2.1, HEP.out.2.2.2, HCT.out]; rfl)
  clear O0 O1 O2 R1 R2 RA1 l1 l2 l3 s1 s2 G1 G2 G3 B1 B2 R3 hv3 hc3 hn3
  go_wp2_with (first
    | ((with_reducible refine co.mono ?_); rintro e w4 ⟨g, rfl, R4, B4⟩; have E4 : (w4.alloc (.cells #[.int .u8 0, .slice none 0 0, .int .i64 0, .int .i64 0] 26)).heap[w4.heap.size]? = some (.cells #[.int .u8 0, .slice none 0 0, .int .i64 0, .int .i64 0] 26) := heap_alloc_new w4 _)
    | (with_reducible refine put26 rfl (.tmp 11) (.tmp 45) rfl w4.heap.size rfl E4 rfl ?_; intro w5 E5 G5))
  have b4 : Below wb.heap.size wb w4 := B3.trans (B4.mono B3.size)
  have b45 : Below w4.heap.size w4 w5 := ((Below.refl _ w4).alloc (Nat.le_refl _) _).grown G5 (by simp) (fun k h => by cases h; exact Nat.le_refl _)
  have b5 : Below wb.heap.size wb w5 := b4.trans (b45.mono b4.size)
  have bw5 : Below w.heap.size w w5 := bb.trans (b5.mono sb)
  obtain ⟨p0, p1, q2, q3, pf⟩ := cells4 E5
  have R5 : Row w5 g p := R4.below b45 R4.lt
  have q5lt : w4.heap.size < w5.heap.size := by have := G5.size; simp at this; omega
  have CVF : Hid (∀ x, Below w5.heap.size w5 x → (convert 22 9 (.slice Af L cf)).run Try.prog x = .ok (.string (str P)) x) := fun x h => Coin.conv_any (RF.below (b5.trans (h.mono b5.size)) (Nat.le_refl _)) L cf HL.out
  have CVP : Hid (∀ x, Below w5.heap.size w5 x → (convert 22 9 (.slice a1 m cap1)).run Try.prog x = .ok (.string (str p)) x) := fun x h => Coin.conv_any (RP.below (bw5.trans (h.mono bw5.size)) (Nat.le_refl _)) m cap1 HM.out
  have CVG : Hid (∀ x, Below w5.heap.size w5 x → (convert 22 9 (.slice (some ⟨g, 0, none⟩) m m)).run Try.prog x = .ok (.string (str p)) x) := fun x h => Coin.conv_any (R5.below h R5.lt).rd m m HM.out
  have CEL : Hid (∀ x, Below w5.heap.size w5 x → x.cell? ⟨w4.heap.size, 0, none⟩ = some (.int .u8 (kd.toNat : Int)) ∧ x.cell? ⟨w4.heap.size, 1, none⟩ = some (.slice (some ⟨g, 0, none⟩) m m) ∧ x.cell? ⟨w4.heap.size, 2, none⟩ = some (.int .i64 (m2 : Int)) ∧ x.cell? ⟨w4.heap.size, 3, none⟩ = some (.int .i64 (m2 + L : Nat))) := fun x h => ⟨(h.cell q5lt).trans p0, (h.cell q5lt).trans p1, (h.cell q5lt).trans q2, (h.cell q5lt).trans q3⟩
  obtain ⟨SP, hSP⟩ : ∃ SP, SP = str P := ⟨_, rfl⟩
  obtain ⟨Sp, hSp⟩ : ∃ Sp, Sp = str p := ⟨_, rfl⟩
  rw [← hSP] at CVF
  rw [← hSp] at CVP CVG
  have HSP := Lib.hid hSP
  have hml : ((m2 + L : Nat) : Int) = (m2 : Int) + L := by omega
  rw [hml] at CEL
  obtain ⟨kk, hkk⟩ : ∃ kk : Int, kk = (kd.toNat : Int) := ⟨_, rfl⟩
  rw [← hkk] at CEL CR ⊢
  have hwr : IntKind.i64.wrap ((m2 : Int) + (L : Int)) = (m2 : Int) + (L : Int) := by rw [IntKind.wrap_i64]; omega
  have CRw := fun W h => CR.out W h
  clear hSP hSp hml hkk p0 p1 q2 q3 pf E5 G5 R5 RF3 co cp RF b45 E4 R4 HCT HEP HD
  go_wp2_with fail
  refine wp_region_noPanic ?_
  refine wp_region_held_drew (S := fun x => Below w5.heap.size w5 x) (by kernel_rfl) (Below.refl _ w5).drew (fun hHeld => ?_)
  refine wpAnyH_take (i := 0) (oi := { dst := some 47, op := Op.move (Operand.tmp 9), type := 22, pos := "law.go:35", after := #[], guard := none }) (v := .slice Af L cf) rfl (by kernel_rfl) (by kernel_rfl) (by kernel_rfl) (fun _ _ _ h => h) (Or.inl ⟨by rfl, fun w hSw => by go_simp⟩) (by assumption) ?_
  try simp only [Act.put, List.setIfInBounds_toArray, List.set_cons_zero, List.set_cons_succ]
  refine wpAnyH_take (i := 2) (oi := { dst := some 49, op := Op.move (Operand.tmp 0), type := 5, pos := "law.go:35", after := #[], guard := none }) (v := .int .u8 kk) rfl (by kernel_rfl) (by kernel_rfl) (by kernel_rfl) (fun _ _ _ h => h) (Or.inl ⟨by rfl, fun w hSw => by go_simp⟩) (by assumption) ?_
  try simp only [Act.put, List.setIfInBounds_toArray, List.set_cons_zero, List.set_cons_succ]
  refine wpAnyH_take (i := 3) (oi := { dst := some 50, op := Op.move (Operand.tmp 1), type := 22, pos := "law.go:35", after := #[], guard := none }) (v := .slice a1 m cap1) rfl (by kernel_rfl) (by kernel_rfl) (by kernel_rfl) (fun _ _ _ h => h) (Or.inl ⟨by rfl, fun w hSw => by go_simp⟩) (by assumption) ?_
  try simp only [Act.put, List.setIfInBounds_toArray, List.set_cons_zero, List.set_cons_succ]
  refine wpAnyH_take (i := 1) (oi := { dst := some 48, op := Op.convert 22 9 (Operand.tmp 47), type := 9, pos := "law.go:35", after := #[{ on := 0, ground := Ground.data }], guard := none }) (v := .string SP) rfl (by kernel_rfl) (by kernel_rfl) (by kernel_rfl) (fun _ _ _ h => h) (Or.inl ⟨by rfl, fun w hSw => by have q1 := CVF.out w hSw; go_simp⟩) (by assumption) ?_
  try simp only [Act.put, List.setIfInBounds_toArray, List.set_cons_zero, List.set_cons_succ]
  refine wpAnyH_ready (rs := [4]) (by kernel_rfl) (by simp) ?_
  refine AllReadyH.cons (o := { dst := some 51, op := Op.call { callee := Callee.value (Operand.func 10), args := #[Operand.tmp 49, Operand.tmp 50], argTypes := #[5, 22] }, type := 22, pos := "law.go:35", after := #[{ on := 2, ground := Ground.data }, { on := 3, ground := Ground.data }], guard := none }) rfl (fun K hK => ?_) AllReadyH.nil
  go_simp
  refine (CRw _ (bw5.trans (hHeld.mono bw5.size))).mono ?_
  rintro e w6 ⟨v6, rfl, O6, B6⟩
  obtain ⟨A6, c6, rfl, R6, _, _⟩ := O6.form
  rw [← HL.out]
  refine hK.out _ _ (hHeld.trans (B6.mono hHeld.size)) (fun hHeld => ?_)
  clear hK K
  try simp only [Act.put, List.setIfInBounds_toArray, List.set_cons_zero, List.set_cons_succ]
  have HH6 := hHeld
  have q5 : Hid (∀ x, Below w6.heap.size w6 x → (convert 22 9 (.slice A6 L c6)).run Try.prog x = .ok (.string SP) x) := fun x h => by rw [HSP.out]; exact Coin.conv_any (R6.below h (Nat.le_refl _)) L c6 HL.out
  refine wpAnyH_mono (S' := fun x => Below w6.heap.size w6 x ∧ True) (fun x h => hHeld.trans (h.1.mono (hHeld.size))) _ _ _ _ ?_
  have hHeld2 : (fun x => Below w6.heap.size w6 x ∧ True) w6 := ⟨Below.refl _ _, trivial⟩
  refine wpAnyH_take (i := 5) (oi := { dst := some 52, op := Op.convert 22 9 (Operand.tmp 51), type := 9, pos := "law.go:35", after := #[{ on := 4, ground := Ground.data }], guard := none }) (v := .string SP) rfl (by kernel_rfl) (by kernel_rfl) (by kernel_rfl) (fun _ _ _ h => h) (Or.inl ⟨by rfl, fun w hSw => by have q2 := q5.out w hSw.1; go_simp⟩) (by assumption) ?_
  try simp only [Act.put, List.setIfInBounds_toArray, List.set_cons_zero, List.set_cons_succ]
  refine wpAnyH_take (i := 6) (oi := { dst := some 53, op := Op.binOp BinOp.eql 9 (Operand.tmp 48) (Operand.tmp 52) 9, type := 4, pos := "law.go:35", after := #[{ on := 1, ground := Ground.data }, { on := 5, ground := Ground.data }], guard := none }) (v := .bool true) rfl (by kernel_rfl) (by kernel_rfl) (by kernel_rfl) (fun _ _ _ h => h) (Or.inl ⟨by rfl, fun w hSw => by go_simp⟩) (by assumption) ?_
  try simp only [Act.put, List.setIfInBounds_toArray, List.set_cons_zero, List.set_cons_succ]
  refine wpAnyH_take (i := 7) (oi := { dst := some 54, op := Op.move (Operand.tmp 53), type := 4, pos := "law.go:35", after := #[{ on := 6, ground := Ground.data }, { on := 4, ground := Ground.chain }], guard := none }) (v := .bool true) rfl (by kernel_rfl) (by kernel_rfl) (by kernel_rfl) (fun _ _ _ h => h) (Or.inl ⟨by rfl, fun w hSw => by go_simp⟩) (by assumption) ?_
  try simp only [Act.put, List.setIfInBounds_toArray, List.set_cons_zero, List.set_cons_succ]
  refine wpAnyH_take (i := 8) (oi := { dst := some 55, op := Op.move (Operand.tmp 1), type := 22, pos := "law.go:35", after := #[{ on := 7, ground := Ground.guard }], guard := some (7, true) }) (v := .slice a1 m cap1) rfl (by kernel_rfl) (by kernel_rfl) (by kernel_rfl) (fun _ _ _ h => h) (Or.inl ⟨by rfl, fun w hSw => by go_simp⟩) (by assumption) ?_
  try simp only [Act.put, List.setIfInBounds_toArray, List.set_cons_zero, List.set_cons_succ]
  refine wpAnyH_take (i := 9) (oi := { dst := some 56, op := Op.call { callee := Callee.builtin Builtin.len, args := #[Operand.tmp 55], argTypes := #[22] }, type := 3, pos := "law.go:35", after := #[{ on := 8, ground := Ground.data }, { on := 7, ground := Ground.guard }], guard := some (7, true) }) (v := .int .i64 (m : Int)) rfl (by kernel_rfl) (by kernel_rfl) (by kernel_rfl) (fun _ _ _ h => h) (Or.inl ⟨by rfl, fun w hSw => by go_simp⟩) (by assumption) ?_
  try simp only [Act.put, List.setIfInBounds_toArray, List.set_cons_zero, List.set_cons_succ]
  refine wpAnyH_take (i := 11) (oi := { dst := some 58, op := Op.move (Operand.tmp 9), type := 22, pos := "law.go:35", after := #[{ on := 7, ground := Ground.guard }], guard := some (7, true) }) (v := .slice Af L cf) rfl (by kernel_rfl) (by kernel_rfl) (by kernel_rfl) (fun _ _ _ h => h) (Or.inl ⟨by rfl, fun w hSw => by go_simp⟩) (by assumption) ?_
  try simp only [Act.put, List.setIfInBounds_toArray, List.set_cons_zero, List.set_cons_succ]
  refine wpAnyH_take (i := 12) (oi := { dst := some 59, op := Op.call { callee := Callee.builtin Builtin.len, args := #[Operand.tmp 58], argTypes := #[22] }, type := 3, pos := "law.go:35", after := #[{ on := 11, ground := Ground.data }, { on := 7, ground := Ground.guard }], guard := some (7, true) }) (v := .int .i64 (L : Int)) rfl (by kernel_rfl) (by kernel_rfl) (by kernel_rfl) (fun _ _ _ h => h) (Or.inl ⟨by rfl, fun w hSw => by go_simp⟩) (by assumption) ?_
  try simp only [Act.put, List.setIfInBounds_toArray, List.set_cons_zero, List.set_cons_succ]
  refine wpAnyH_ready (rs := [10]) (by kernel_rfl) (by simp) ?_
  refine AllReadyH.cons (o := { dst := some 57, op := Op.call { callee := Callee.value (Operand.func 11), args := #[Operand.tmp 56], argTypes := #[3] }, type := 3, pos := "law.go:35", after := #[{ on := 9, ground := Ground.data }, { on := 7, ground := Ground.chain }, { on := 7, ground := Ground.guard }], guard := some (7, true) }) rfl (fun K hK => ?_) AllReadyH.nil
  go_simp
  refine (CS.out _).mono ?_
  rintro e w7 ⟨rfl, rfl⟩
  refine hK.out _ _ (hHeld2) (fun hHeld => ?_)
  clear hK K
  try simp only [Act.put, List.setIfInBounds_toArray, List.set_cons_zero, List.set_cons_succ]
  refine wpAnyH_take (i := 13) (oi := { dst := some 60, op := Op.binOp BinOp.eql 3 (Operand.tmp 57) (Operand.tmp 59) 3, type := 4, pos := "law.go:35", after := #[{ on := 10, ground := Ground.data }, { on := 12, ground := Ground.data }, { on := 7, ground := Ground.guard }], guard := some (7, true) }) (v := .bool true) rfl (by kernel_rfl) (by kernel_rfl) (by kernel_rfl) (fun _ _ _ h => h) (Or.inl ⟨by rfl, fun w hSw => by go_simp⟩) (by assumption) ?_
  try simp only [Act.put, List.setIfInBounds_toArray, List.set_cons_zero, List.set_cons_succ]
  refine wpAnyH_take (i := 14) (oi := { dst := some 61, op := Op.pick (Operand.tmp 54) (Operand.tmp 60) (Operand.const (Value.bool false)), type := 4, pos := "law.go:35", after := #[{ on := 7, ground := Ground.data }, { on := 13, ground := Ground.data }], guard := none }) (v := .bool true) rfl (by kernel_rfl) (by kernel_rfl) (by kernel_rfl) (fun _ _ _ h => h) (Or.inl ⟨by rfl, fun w hSw => by go_simp⟩) (by assumption) ?_
  try simp only [Act.put, List.setIfInBounds_toArray, List.set_cons_zero, List.set_cons_succ]
  refine wpAnyH_take (i := 15) (oi := { dst := some 62, op := Op.move (Operand.tmp 61), type := 4, pos := "law.go:35", after := #[{ on := 14, ground := Ground.data }, { on := 10, ground := Ground.chain }], guard := none }) (v := .bool true) rfl (by kernel_rfl) (by kernel_rfl) (by kernel_rfl) (fun _ _ _ h => h) (Or.inl ⟨by rfl, fun w hSw => by go_simp⟩) (by assumption) ?_
  try simp only [Act.put, List.setIfInBounds_toArray, List.set_cons_zero, List.set_cons_succ]
  refine wpAnyH_take (i := 16) (oi := { dst := some 63, op := Op.move (Operand.tmp 12), type := 27, pos := "law.go:35", after := #[{ on := 15, ground := Ground.guard }], guard := some (15, true) }) (v := .int .i64 0) rfl (by kernel_rfl) (by kernel_rfl) (by kernel_rfl) (fun _ _ _ h => h) (Or.inl ⟨by rfl, fun w hSw => by go_simp⟩) (by assumption) ?_
  try simp only [Act.put, List.setIfInBounds_toArray, List.set_cons_zero, List.set_cons_succ]
  refine wpAnyH_take (i := 17) (oi := { dst := some 64, op := Op.binOp BinOp.eql 27 (Operand.tmp 63) (Operand.const (Value.int IntKind.i64 0)) 27, type := 4, pos := "law.go:35", after := #[{ on := 16, ground := Ground.data }, { on := 15, ground := Ground.guard }], guard := some (15, true) }) (v := .bool true) rfl (by kernel_rfl) (by kernel_rfl) (by kernel_rfl) (fun _ _ _ h => h) (Or.inl ⟨by rfl, fun w hSw => by go_simp⟩) (by assumption) ?_
  try simp only [Act.put, List.setIfInBounds_toArray, List.set_cons_zero, List.set_cons_succ]
  refine wpAnyH_take (i := 18) (oi := { dst := some 65, op := Op.pick (Operand.tmp 62) (Operand.tmp 64) (Operand.const (Value.bool false)), type := 4, pos := "law.go:35", after := #[{ on := 15, ground := Ground.data }, { on := 17, ground := Ground.data }], guard := none }) (v := .bool true) rfl (by kernel_rfl) (by kernel_rfl) (by kernel_rfl) (fun _ _ _ h => h) (Or.inl ⟨by rfl, fun w hSw => by go_simp⟩) (by assumption) ?_
  try simp only [Act.put, List.setIfInBounds_toArray, List.set_cons_zero, List.set_cons_succ]
  refine wpAnyH_take (i := 19) (oi := { dst := some 66, op := Op.move (Operand.tmp 65), type := 4, pos := "law.go:35", after := #[{ on := 18, ground := Ground.data }, { on := 15, ground := Ground.chain }], guard := none }) (v := .bool true) rfl (by kernel_rfl) (by kernel_rfl) (by kernel_rfl) (fun _ _ _ h => h) (Or.inl ⟨by rfl, fun w hSw => by go_simp⟩) (by assumption) ?_
  try simp only [Act.put, List.setIfInBounds_toArray, List.set_cons_zero, List.set_cons_succ]
  refine wpAnyH_take (i := 20) (oi := { dst := some 67, op := Op.fieldAddr 26 (Operand.tmp 11) 0, type := 0, pos := "law.go:35", after := #[{ on := 19, ground := Ground.guard }], guard := some (19, true) }) (v := .pointer (some ⟨w4.heap.size, 0, none⟩)) rfl (by kernel_rfl) (by kernel_rfl) (by kernel_rfl) (fun _ _ _ h => h) (Or.inl ⟨by rfl, fun w hSw => by go_simp⟩) (by assumption) ?_
  try simp only [Act.put, List.setIfInBounds_toArray, List.set_cons_zero, List.set_cons_succ]
  refine wpAnyH_take (i := 21) (oi := { dst := some 68, op := Op.load 5 (Operand.tmp 67), type := 5, pos := "law.go:35", after := #[{ on := 20, ground := Ground.data }, { on := 19, ground := Ground.guard }], guard := some (19, true) }) (v := .int .u8 kk) rfl (by kernel_rfl) (by kernel_rfl) (by kernel_rfl) (fun _ _ _ h => h) (Or.inl ⟨by rfl, fun w hSw => by have q6 := HH6.trans (hSw.1.mono HH6.size); obtain ⟨y0, y1, y2, y3⟩ := CEL.out w q6; go_simp⟩) (by assumption) ?_
  try simp only [Act.put, List.setIfInBounds_toArray, List.set_cons_zero, List.set_cons_succ]
  refine wpAnyH_take (i := 22) (oi := { dst := some 69, op := Op.move (Operand.tmp 0), type := 5, pos := "law.go:35", after := #[{ on := 19, ground := Ground.guard }], guard := some (19, true) }) (v := .int .u8 kk) rfl (by kernel_rfl) (by kernel_rfl) (by kernel_rfl) (fun _ _ _ h => h) (Or.inl ⟨by rfl, fun w hSw => by go_simp⟩) (by assumption) ?_
  try simp only [Act.put, List.setIfInBounds_toArray, List.set_cons_zero, List.set_cons_succ]
  refine wpAnyH_take (i := 23) (oi := { dst := some 70, op := Op.binOp BinOp.eql 5 (Operand.tmp 68) (Operand.tmp 69) 5, type := 4, pos := "law.go:35", after := #[{ on := 21, ground := Ground.data }, { on := 22, ground := Ground.data }, { on := 19, ground := Ground.guard }], guard := some (19, true) }) (v := .bool true) rfl (by kernel_rfl) (by kernel_rfl) (by kernel_rfl) (fun _ _ _ h => h) (Or.inl ⟨by rfl, fun w hSw => by go_simp⟩) (by assumption) ?_
  try simp only [Act.put, List.setIfInBounds_toArray, List.set_cons_zero, List.set_cons_succ]
  refine wpAnyH_take (i := 24) (oi := { dst := some 71, op := Op.pick (Operand.tmp 66) (Operand.tmp 70) (Operand.const (Value.bool false)), type := 4, pos := "law.go:35", after := #[{ on := 19, ground := Ground.data }, { on := 23, ground := Ground.data }], guard := none }) (v := .bool true) rfl (by kernel_rfl) (by kernel_rfl) (by kernel_rfl) (fun _ _ _ h => h) (Or.inl ⟨by rfl, fun w hSw => by go_simp⟩) (by assumption) ?_
  try simp only [Act.put, List.setIfInBounds_toArray, List.set_cons_zero, List.set_cons_succ]
  refine wpAnyH_take (i := 25) (oi := { dst := some 72, op := Op.move (Operand.tmp 71), type := 4, pos := "law.go:35", after := #[{ on := 24, ground := Ground.data }, { on := 19, ground := Ground.chain }], guard := none }) (v := .bool true) rfl (by kernel_rfl) (by kernel_rfl) (by kernel_rfl) (fun _ _ _ h => h) (Or.inl ⟨by rfl, fun w hSw => by go_simp⟩) (by assumption) ?_
  try simp only [Act.put, List.setIfInBounds_toArray, List.set_cons_zero, List.set_cons_succ]
  refine wpAnyH_take (i := 26) (oi := { dst := some 73, op := Op.fieldAddr 26 (Operand.tmp 11) 1, type := 0, pos := "law.go:35", after := #[{ on := 25, ground := Ground.guard }], guard := some (25, true) }) (v := .pointer (some ⟨w4.heap.size, 1, none⟩)) rfl (by kernel_rfl) (by kernel_rfl) (by kernel_rfl) (fun _ _ _ h => h) (Or.inl ⟨by rfl, fun w hSw => by go_simp⟩) (by assumption) ?_
  try simp only [Act.put, List.setIfInBounds_toArray, List.set_cons_zero, List.set_cons_succ]
  refine wpAnyH_take (i := 27) (oi := { dst := some 74, op := Op.load 22 (Operand.tmp 73), type := 22, pos := "law.go:35", after := #[{ on := 26, ground := Ground.data }, { on := 25, ground := Ground.guard }], guard := some (25, true) }) (v := .slice (some ⟨g, 0, none⟩) m m) rfl (by kernel_rfl) (by kernel_rfl) (by kernel_rfl) (fun _ _ _ h => h) (Or.inl ⟨by rfl, fun w hSw => by have q6 := HH6.trans (hSw.1.mono HH6.size); obtain ⟨y0, y1, y2, y3⟩ := CEL.out w q6; go_simp⟩) (by assumption) ?_
  try simp only [Act.put, List.setIfInBounds_toArray, List.set_cons_zero, List.set_cons_succ]
  refine wpAnyH_take (i := 28) (oi := { dst := some 75, op := Op.convert 22 9 (Operand.tmp 74), type := 9, pos := "law.go:35", after := #[{ on := 27, ground := Ground.data }, { on := 25, ground := Ground.guard }], guard := some (25, true) }) (v := .string Sp) rfl (by kernel_rfl) (by kernel_rfl) (by kernel_rfl) (fun _ _ _ h => h) (Or.inl ⟨by rfl, fun w hSw => by have q6 := HH6.trans (hSw.1.mono HH6.size); have q1 := CVG.out w q6; go_simp⟩) (by assumption) ?_
  try simp only [Act.put, List.setIfInBounds_toArray, List.set_cons_zero, List.set_cons_succ]
  refine wpAnyH_take (i := 29) (oi := { dst := some 76, op := Op.move (Operand.tmp 1), type := 22, pos := "law.go:35", after := #[{ on := 25, ground := Ground.guard }], guard := some (25, true) }) (v := .slice a1 m cap1) rfl (by kernel_rfl) (by kernel_rfl) (by kernel_rfl) (fun _ _ _ h => h) (Or.inl ⟨by rfl, fun w hSw => by go_simp⟩) (by assumption) ?_
  try simp only [Act.put, List.setIfInBounds_toArray, List.set_cons_zero, List.set_cons_succ]
  refine wpAnyH_take (i := 30) (oi := { dst := some 77, op := Op.convert 22 9 (Operand.tmp 76), type := 9, pos := "law.go:35", after := #[{ on := 29, ground := Ground.data }, { on := 25, ground := Ground.guard }], guard := some (25, true) }) (v := .string Sp) rfl (by kernel_rfl) (by kernel_rfl) (by kernel_rfl) (fun _ _ _ h => h) (Or.inl ⟨by rfl, fun w hSw => by have q6 := HH6.trans (hSw.1.mono HH6.size); have q1 := CVP.out w q6; go_simp⟩) (by assumption) ?_
  try simp only [Act.put, List.setIfInBounds_toArray, List.set_cons_zero, List.set_cons_succ]
  refine wpAnyH_take (i := 31) (oi := { dst := some 78, op := Op.binOp BinOp.eql 9 (Operand.tmp 75) (Operand.tmp 77) 9, type := 4, pos := "law.go:35", after := #[{ on := 28, ground := Ground.data }, { on := 30, ground := Ground.data }, { on := 25, ground := Ground.guard }], guard := some (25, true) }) (v := .bool true) rfl (by kernel_rfl) (by kernel_rfl) (by kernel_rfl) (fun _ _ _ h => h) (Or.inl ⟨by rfl, fun w hSw => by go_simp⟩) (by assumption) ?_
  try simp only [Act.put, List.setIfInBounds_toArray, List.set_cons_zero, List.set_cons_succ]
  refine wpAnyH_take (i := 32) (oi := { dst := some 79, op := Op.pick (Operand.tmp 72) (Operand.tmp 78) (Operand.const (Value.bool false)), type := 4, pos := "law.go:35", after := #[{ on := 25, ground := Ground.data }, { on := 31, ground := Ground.data }], guard := none }) (v := .bool true) rfl (by kernel_rfl) (by kernel_rfl) (by kernel_rfl) (fun _ _ _ h => h) (Or.inl ⟨by rfl, fun w hSw => by go_simp⟩) (by assumption) ?_
  try simp only [Act.put, List.setIfInBounds_toArray, List.set_cons_zero, List.set_cons_succ]
  refine wpAnyH_take (i := 33) (oi := { dst := some 80, op := Op.move (Operand.tmp 79), type := 4, pos := "law.go:35", after := #[{ on := 32, ground := Ground.data }, { on := 25, ground := Ground.chain }], guard := none }) (v := .bool true) rfl (by kernel_rfl) (by kernel_rfl) (by kernel_rfl) (fun _ _ _ h => h) (Or.inl ⟨by rfl, fun w hSw => by go_simp⟩) (by assumption) ?_
  try simp only [Act.put, List.setIfInBounds_toArray, List.set_cons_zero, List.set_cons_succ]
  refine wpAnyH_take (i := 34) (oi := { dst := some 81, op := Op.fieldAddr 26 (Operand.tmp 11) 2, type := 0, pos := "law.go:35", after := #[{ on := 33, ground := Ground.guard }], guard := some (33, true) }) (v := .pointer (some ⟨w4.heap.size, 2, none⟩)) rfl (by kernel_rfl) (by kernel_rfl) (by kernel_rfl) (fun _ _ _ h => h) (Or.inl ⟨by rfl, fun w hSw => by go_simp⟩) (by assumption) ?_
  try simp only [Act.put, List.setIfInBounds_toArray, List.set_cons_zero, List.set_cons_succ]
  refine wpAnyH_take (i := 35) (oi := { dst := some 82, op := Op.load 3 (Operand.tmp 81), type := 3, pos := "law.go:35", after := #[{ on := 34, ground := Ground.data }, { on := 33, ground := Ground.guard }], guard := some (33, true) }) (v := .int .i64 (m2 : Int)) rfl (by kernel_rfl) (by kernel_rfl) (by kernel_rfl) (fun _ _ _ h => h) (Or.inl ⟨by rfl, fun w hSw => by have q6 := HH6.trans (hSw.1.mono HH6.size); obtain ⟨y0, y1, y2, y3⟩ := CEL.out w q6; go_simp⟩) (by assumption) ?_
  try simp only [Act.put, List.setIfInBounds_toArray, List.set_cons_zero, List.set_cons_succ]
  refine wpAnyH_take (i := 36) (oi := { dst := some 83, op := Op.move (Operand.tmp 2), type := 22, pos := "law.go:35", after := #[{ on := 33, ground := Ground.guard }], guard := some (33, true) }) (v := .slice a2 m2 cap2) rfl (by kernel_rfl) (by kernel_rfl) (by kernel_rfl) (fun _ _ _ h => h) (Or.inl ⟨by rfl, fun w hSw => by go_simp⟩) (by assumption) ?_
  try simp only [Act.put, List.setIfInBounds_toArray, List.set_cons_zero, List.set_cons_succ]
  refine wpAnyH_take (i := 37) (oi := { dst := some 84, op := Op.call { callee := Callee.builtin Builtin.len, args := #[Operand.tmp 83], argTypes := #[22] }, type := 3, pos := "law.go:35", after := #[{ on := 36, ground := Ground.data }, { on := 33, ground := Ground.guard }], guard := some (33, true) }) (v := .int .i64 (m2 : Int)) rfl (by kernel_rfl) (by kernel_rfl) (by kernel_rfl) (fun _ _ _ h => h) (Or.inl ⟨by rfl, fun w hSw => by go_simp⟩) (by assumption) ?_
  try simp only [Act.put, List.setIfInBounds_toArray, List.set_cons_zero, List.set_cons_succ]
  refine wpAnyH_take (i := 38) (oi := { dst := some 85, op := Op.binOp BinOp.eql 3 (Operand.tmp 82) (Operand.tmp 84) 3, type := 4, pos := "law.go:35", after := #[{ on := 35, ground := Ground.data }, { on := 37, ground := Ground.data }, { on := 33, ground := Ground.guard }], guard := some (33, true) }) (v := .bool true) rfl (by kernel_rfl) (by kernel_rfl) (by kernel_rfl) (fun _ _ _ h => h) (Or.inl ⟨by rfl, fun w hSw => by go_simp⟩) (by assumption) ?_
  try simp only [Act.put, List.setIfInBounds_toArray, List.set_cons_zero, List.set_cons_succ]
  refine wpAnyH_take (i := 39) (oi := { dst := some 86, op := Op.pick (Operand.tmp 80) (Operand.tmp 85) (Operand.const (Value.bool false)), type := 4, pos := "law.go:35", after := #[{ on := 33, ground := Ground.data }, { on := 38, ground := Ground.data }], guard := none }) (v := .bool true) rfl (by kernel_rfl) (by kernel_rfl) (by kernel_rfl) (fun _ _ _ h => h) (Or.inl ⟨by rfl, fun w hSw => by go_simp⟩) (by assumption) ?_
  try simp only [Act.put, List.setIfInBounds_toArray, List.set_cons_zero, List.set_cons_succ]
  refine wpAnyH_take (i := 40) (oi := { dst := some 87, op := Op.move (Operand.tmp 86), type := 4, pos := "law.go:35", after := #[{ on := 39, ground := Ground.data }, { on := 33, ground := Ground.chain }], guard := none }) (v := .bool true) rfl (by kernel_rfl) (by kernel_rfl) (by kernel_rfl) (fun _ _ _ h => h) (Or.inl ⟨by rfl, fun w hSw => by go_simp⟩) (by assumption) ?_
  try simp only [Act.put, List.setIfInBounds_toArray, List.set_cons_zero, List.set_cons_succ]
  refine wpAnyH_take (i := 41) (oi := { dst := some 88, op := Op.fieldAddr 26 (Operand.tmp 11) 3, type := 0, pos := "law.go:35", after := #[{ on := 40, ground := Ground.guard }], guard := some (40, true) }) (v := .pointer (some ⟨w4.heap.size, 3, none⟩)) rfl (by kernel_rfl) (by kernel_rfl) (by kernel_rfl) (fun _ _ _ h => h) (Or.inl ⟨by rfl, fun w hSw => by go_simp⟩) (by assumption) ?_
  try simp only [Act.put, List.setIfInBounds_toArray, List.set_cons_zero, List.set_cons_succ]
  refine wpAnyH_take (i := 42) (oi := { dst := some 89, op := Op.load 3 (Operand.tmp 88), type := 3, pos := "law.go:35", after := #[{ on := 41, ground := Ground.data }, { on := 40, ground := Ground.guard }], guard := some (40, true) }) (v := .int .i64 ((m2 : Int) + (L : Int))) rfl (by kernel_rfl) (by kernel_rfl) (by kernel_rfl) (fun _ _ _ h => h) (Or.inl ⟨by rfl, fun w hSw => by have q6 := HH6.trans (hSw.1.mono HH6.size); obtain ⟨y0, y1, y2, y3⟩ := CEL.out w q6; go_simp⟩) (by assumption) ?_
  try simp only [Act.put, List.setIfInBounds_toArray, List.set_cons_zero, List.set_cons_succ]
  refine wpAnyH_take (i := 43) (oi := { dst := some 90, op := Op.move (Operand.tmp 2), type := 22, pos := "law.go:35", after := #[{ on := 40, ground := Ground.guard }], guard := some (40, true) }) (v := .slice a2 m2 cap2) rfl (by kernel_rfl) (by kernel_rfl) (by kernel_rfl) (fun _ _ _ h => h) (Or.inl ⟨by rfl, fun w hSw => by go_simp⟩) (by assumption) ?_
  try simp only [Act.put, List.setIfInBounds_toArray, List.set_cons_zero, List.set_cons_succ]
  refine wpAnyH_take (i := 44) (oi := { dst := some 91, op := Op.call { callee := Callee.builtin Builtin.len, args := #[Operand.tmp 90], argTypes := #[22] }, type := 3, pos := "law.go:35", after := #[{ on := 43, ground := Ground.data }, { on := 40, ground := Ground.guard }], guard := some (40, true) }) (v := .int .i64 (m2 : Int)) rfl (by kernel_rfl) (by kernel_rfl) (by kernel_rfl) (fun _ _ _ h => h) (Or.inl ⟨by rfl, fun w hSw => by go_simp⟩) (by assumption) ?_
  try simp only [Act.put, List.setIfInBounds_toArray, List.set_cons_zero, List.set_cons_succ]
  refine wpAnyH_take (i := 45) (oi := { dst := some 92, op := Op.move (Operand.tmp 9), type := 22, pos := "law.go:35", after := #[{ on := 40, ground := Ground.guard }], guard := some (40, true) }) (v := .slice Af L cf) rfl (by kernel_rfl) (by kernel_rfl) (by kernel_rfl) (fun _ _ _ h => h) (Or.inl ⟨by rfl, fun w hSw => by go_simp⟩) (by assumption) ?_
  try simp only [Act.put, List.setIfInBounds_toArray, List.set_cons_zero, List.set_cons_succ]
  refine wpAnyH_take (i := 46) (oi := { dst := some 93, op := Op.call { callee := Callee.builtin Builtin.len, args := #[Operand.tmp 92], argTypes := #[22] }, type := 3, pos := "law.go:35", after := #[{ on := 45, ground := Ground.data }, { on := 40, ground := Ground.guard }], guard := some (40, true) }) (v := .int .i64 (L : Int)) rfl (by kernel_rfl) (by kernel_rfl) (by kernel_rfl) (fun _ _ _ h => h) (Or.inl ⟨by rfl, fun w hSw => by go_simp⟩) (by assumption) ?_
  try simp only [Act.put, List.setIfInBounds_toArray, List.set_cons_zero, List.set_cons_succ]
  refine wpAnyH_take (i := 47) (oi := { dst := some 94, op := Op.binOp BinOp.add 3 (Operand.tmp 91) (Operand.tmp 93) 3, type := 3, pos := "law.go:35", after := #[{ on := 44, ground := Ground.data }, { on := 46, ground := Ground.data }, { on := 40, ground := Ground.guard }], guard := some (40, true) }) (v := .int .i64 ((m2 : Int) + (L : Int))) rfl (by kernel_rfl) (by kernel_rfl) (by kernel_rfl) (fun _ _ _ h => h) (Or.inl ⟨by rfl, fun w hSw => by go_simp⟩) (by assumption) ?_
  try simp only [Act.put, List.setIfInBounds_toArray, List.set_cons_zero, List.set_cons_succ]
  refine wpAnyH_take (i := 48) (oi := { dst := some 95, op := Op.binOp BinOp.eql 3 (Operand.tmp 89) (Operand.tmp 94) 3, type := 4, pos := "law.go:35", after := #[{ on := 42, ground := Ground.data }, { on := 47, ground := Ground.data }, { on := 40, ground := Ground.guard }], guard := some (40, true) }) (v := .bool true) rfl (by kernel_rfl) (by kernel_rfl) (by kernel_rfl) (fun _ _ _ h => h) (Or.inl ⟨by rfl, fun w hSw => by go_simp⟩) (by assumption) ?_
  try simp only [Act.put, List.setIfInBounds_toArray, List.set_cons_zero, List.set_cons_succ]
  refine wpAnyH_take (i := 49) (oi := { dst := some 96, op := Op.pick (Operand.tmp 87) (Operand.tmp 95) (Operand.const (Value.bool false)), type := 4, pos := "law.go:35", after := #[{ on := 40, ground := Ground.data }, { on := 48, ground := Ground.data }], guard := none }) (v := .bool true) rfl (by kernel_rfl) (by kernel_rfl) (by kernel_rfl) (fun _ _ _ h => h) (Or.inl ⟨by rfl, fun w hSw => by go_simp⟩) (by assumption) ?_
  try simp only [Act.put, List.setIfInBounds_toArray, List.set_cons_zero, List.set_cons_succ]
  refine wpAnyH_take (i := 50) (oi := { dst := some 8, op := Op.assign (Operand.tmp 96), type := 4, pos := "law.go:35", after := #[{ on := 49, ground := Ground.data }, { on := 40, ground := Ground.chain }, { on := 0, ground := Ground.phase }, { on := 1, ground := Ground.phase }, { on := 2, ground := Ground.phase }, { on := 3, ground := Ground.phase }, { on := 4, ground := Ground.phase }, { on := 5, ground := Ground.phase }, { on := 6, ground := Ground.phase }, { on := 7, ground := Ground.phase }, { on := 8, ground := Ground.phase }, { on := 9, ground := Ground.phase }, { on := 10, ground := Ground.phase }, { on := 11, ground := Ground.phase }, { on := 12, ground := Ground.phase }, { on := 13, ground := Ground.phase }, { on := 14, ground := Ground.phase }, { on := 15, ground := Ground.phase }, { on := 16, ground := Ground.phase }, { on := 17, ground := Ground.phase }, { on := 18, ground := Ground.phase }, { on := 19, ground := Ground.phase }, { on := 20, ground := Ground.phase }, { on := 21, ground := Ground.phase }, { on := 22, ground := Ground.phase }, { on := 23, ground := Ground.phase }, { on := 24, ground := Ground.phase }, { on := 25, ground := Ground.phase }, { on := 26, ground := Ground.phase }, { on := 27, ground := Ground.phase }, { on := 28, ground := Ground.phase }, { on := 29, ground := Ground.phase }, { on := 30, ground := Ground.phase }, { on := 31, ground := Ground.phase }, { on := 32, ground := Ground.phase }, { on := 33, ground := Ground.phase }, { on := 34, ground := Ground.phase }, { on := 35, ground := Ground.phase }, { on := 36, ground := Ground.phase }, { on := 37, ground := Ground.phase }, { on := 38, ground := Ground.phase }, { on := 39, ground := Ground.phase }, { on := 40, ground := Ground.phase }, { on := 41, ground := Ground.phase }, { on := 42, ground := Ground.phase }, { on := 43, ground := Ground.phase }, { on := 44, ground := Ground.phase }, { on := 45, ground := Ground.phase }, { on := 46, ground := Ground.phase }, { on := 47, ground := Ground.phase }, { on := 48, ground := Ground.phase }, { on := 49, ground := Ground.phase }], guard := none }) (v := .bool true) rfl (by kernel_rfl) (by kernel_rfl) (by kernel_rfl) (fun _ _ _ h => h) (Or.inl ⟨by rfl, fun w hSw => by go_simp⟩) (by assumption) ?_
  try simp only [Act.put, List.setIfInBounds_toArray, List.set_cons_zero, List.set_cons_succ]
  refine wpAnyH_done (by kernel_rfl) ?_ _
  try unfold NoPanic
  go_wp2_with fail
  go_ret
  exact ⟨rfl, bw5.trans (HH6.mono bw5.size)⟩

set_option maxRecDepth 100000 in
theorem lifted (os : Os) (started : os.Started) (H : Type) (enc : TypeId × Value → H) :
    ReturnsInHanded {} Try.checked os 3 .any (Rows.framePacksSpec.pre6 enc Try.prog Try.f3 Rows.framePacksRow.domain false) (Rows.framePacksSpec.post enc Try.prog Try.f3 false true false false) := by
  refine returnsInHanded_of_change (C := Try.checked) own started (by kernel_rfl) Try.func3
    (ChangeSpec.witness6 (enc := enc) (C := Try.checked) false ⟨#[], #[.int .u8 0, .slice none 0 0, .slice none 0 0, .slice none 0 0], []⟩ 8 (by kernel_rfl) (by kernel_rfl) (by kernel_rfl) (by kernel_rfl)) ?_
  intro W base args ds gs before hval0 hW hcnd _
  have hval : ∀ (j : Nat) t v, Try.f3.params[j]? = some t → args[j]? = some v → Value.okWide Try.prog W .any base t v := hval0
  have hW' := hW
  obtain ⟨p, q, hA0, hV, rfl, hfz, hnd⟩ := hW
  have hA : DataW.TrodAll enc Try.prog W 0 (fun _ => true) true Try.f3.params.toList args.toList ds p := hA0
  rw [Try.params3] at hA hval
  obtain ⟨v0, vs0, d0, ds0, p0, q0, hargs, rfl, rfl, h0, r0⟩ := trodAll_cons hA
  obtain ⟨v1, vs1, d1, ds1, p1, q1, rfl, rfl, rfl, h1, r1⟩ := trodAll_cons r0
  obtain ⟨v2, vs2, d2, ds2, p2, q2, rfl, rfl, rfl, h2, r2⟩ := trodAll_cons r1
  obtain ⟨v3, vs3, d3, ds3, p3, q3, rfl, rfl, rfl, h3, r3⟩ := trodAll_cons r2
  obtain ⟨rfl, rfl, rfl⟩ := trodAll_nil r3
  obtain rfl : args = #[v0, v1, v2, v3] := by cases args; simp_all
  obtain ⟨rfl, rfl⟩ := trodVars_none hV
  obtain ⟨a0, rfl, rfl, rfl, w0⟩ := open_int Try.underlying5 (hval 0 5 v0 rfl rfl) h0
  obtain ⟨a1, len1, cap1, rfl⟩ := okWide_slice Try.underlying22 (hval 1 22 v1 rfl rfl)
  have k1 := h1
  have lt1 : ∀ x ∈ p1, x.block < W.heap.size := by obtain ⟨m, hm⟩ := k1; exact DataW.trod_lt m _ _ _ hm
  obtain ⟨z1, w1⟩ : ∃ zs, IsRow .u8 W a1 len1 cap1 zs := by
    obtain ⟨fuel, hf⟩ := h1
    rcases open_ints Try.underlying22 Try.underlying5 (by kernel_rfl) hf with ⟨hcs, _⟩ | ⟨x, l, c, zs, hcs, _, hl, hm, hz, _, hcell, hwz⟩
    · simp [Value.cells] at hcs
      obtain ⟨rfl, rfl, rfl⟩ := hcs
      exact ⟨[], .inl ⟨rfl, rfl, rfl, rfl⟩⟩
    · simp [Value.cells] at hcs
      obtain ⟨rfl, rfl, rfl⟩ := hcs
      exact ⟨zs, .inr ⟨_, rfl, hl, hm, by simpa using hz, hcell, hwz⟩⟩
  obtain ⟨a2, len2, cap2, rfl⟩ := okWide_slice Try.underlying22 (hval 2 22 v2 rfl rfl)
  have k2 := h2
  have lt2 : ∀ x ∈ p2, x.block < W.heap.size := by obtain ⟨m, hm⟩ := k2; exact DataW.trod_lt m _ _ _ hm
  obtain ⟨z2, w2⟩ : ∃ zs, IsRow .u8 W a2 len2 cap2 zs := by
    obtain ⟨fuel, hf⟩ := h2
    rcases open_ints Try.underlying22 Try.underlying5 (by kernel_rfl) hf with ⟨hcs, _⟩ | ⟨x, l, c, zs, hcs, _, hl, hm, hz, _, hcell, hwz⟩
    · simp [Value.cells] at hcs
      obtain ⟨rfl, rfl, rfl⟩ := hcs
      exact ⟨[], .inl ⟨rfl, rfl, rfl, rfl⟩⟩
    · simp [Value.cells] at hcs
      obtain ⟨rfl, rfl, rfl⟩ := hcs
      exact ⟨zs, .inr ⟨_, rfl, hl, hm, by simpa using hz, hcell, hwz⟩⟩
  obtain ⟨a3, len3, cap3, rfl⟩ := okWide_slice Try.underlying22 (hval 3 22 v3 rfl rfl)
  have k3 := h3
  have lt3 : ∀ x ∈ p3, x.block < W.heap.size := by obtain ⟨m, hm⟩ := k3; exact DataW.trod_lt m _ _ _ hm
  obtain ⟨z3, w3⟩ : ∃ zs, IsRow .u8 W a3 len3 cap3 zs := by
    obtain ⟨fuel, hf⟩ := h3
    rcases open_ints Try.underlying22 Try.underlying5 (by kernel_rfl) hf with ⟨hcs, _⟩ | ⟨x, l, c, zs, hcs, _, hl, hm, hz, _, hcell, hwz⟩
    · simp [Value.cells] at hcs
      obtain ⟨rfl, rfl, rfl⟩ := hcs
      exact ⟨[], .inl ⟨rfl, rfl, rfl, rfl⟩⟩
    · simp [Value.cells] at hcs
      obtain ⟨rfl, rfl, rfl⟩ := hcs
      exact ⟨zs, .inr ⟨_, rfl, hl, hm, by simpa using hz, hcell, hwz⟩⟩
  clear hA0 hval0
  refine (walk a0 a1 len1 cap1 z1 a2 len2 cap2 z2 a3 len3 cap3 z3 W w0 w1 w2 w3).mono fun e W' ⟨he, bel⟩ => ?_
  subst he
  exact ⟨_, rfl, _, _, _, [], _, [], hW', trodAll_mk1 (shut_bool Try.underlying4 _), (trodAll_cons_mk (shut_int Try.underlying5 w0) (trodAll_cons_mk (Below.trod laidOut (by kernel_rfl) (of_decide_eq_true (by kernel_rfl)) k1 bel lt1) (trodAll_cons_mk (Below.trod laidOut (by kernel_rfl) (of_decide_eq_true (by kernel_rfl)) k2 bel lt2) (trodAll_cons_mk (Below.trod laidOut (by kernel_rfl) (of_decide_eq_true (by kernel_rfl)) k3 bel lt3) trodAll_mk0)))), rfl, bel.frame _, fun h => by cases h⟩

theorem over : Rows.framePacksRow.holds Try.pinned (OpenSpec.ofChange Rows.framePacksSpec) :=
  OpenClaim.holds_of_wide 3 Try.f3 rfl rfl rfl rfl rfl rfl rfl ⟨rfl, rfl, rfl, rfl, rfl⟩ rfl rfl rfl rfl rfl (by kernel_rfl) Try.func3 (by kernel_rfl)
    (of_decide_eq_true (by kernel_rfl)) (by unfold Func.isWrapper; first | (rw [if_pos (by decide +kernel)]; kernel_rfl) | (rw [if_neg (by decide +kernel)]; exact ⟨rfl, rfl⟩))
    (fun os started H enc _ => lifted os started H enc)

theorem proved : Rows.FramePacksSaid := over
#print axioms proved
end Go.Proofs.Ytjhkgdgbmmpegaa.framePacks
