/-
  'For every input the Go function milestonelaw05.ShelfNames returns true, and each argument reads behind the call as it read before.'
  Conditions: none but the row's own (linux/amd64, sizes of what is read within the address space).
-/
import Derived.Test.YtkalgonkaoiapaaRows
import Derived.WalkKit
import Derived.ProofKit
import Derived.OpenShut
import Derived.ShutString
import Derived.ChangeOld
import Derived.Below
import Derived.Lib.SmallJoins
import Derived.Lib.Hide
import Derived.Test.YtkalgonkaoiapaaNmm
namespace Go.Proofs.Ytkalgonkaoiapaa.shelfNames
open Shf
open Go.ChangeShapes Go.WideShapes Go.ChangeAt Go.RowKit
open Go.ChangeMaps (open_string shut_string)
set_option linter.unusedVariables false

theorem own : ownKnob Try.prog.godebug = none := by kernel_rfl
theorem laidOut : laidOutB Try.prog = true := by kernel_rfl

/-- What the walk is told of a slice of integers that came in. -/
def IsRow (k : IntKind) (w : World) (a : Option Addr) (len cap : Nat) (zs : List Int) : Prop :=
  (a = none ∧ len = 0 ∧ cap = 0 ∧ zs = []) ∨
  ∃ x, a = some x ∧ len ≤ cap ∧ cap ≤ maxLen ∧ zs.length = cap ∧ (∀ i, i < zs.length → w.cell? (x.add i) = some (.int k (zs.getD i 0))) ∧ ∀ n ∈ zs, (Lit.int k n).wf = true

theorem bytes_of {w : World} {a : Option Addr} {len cap : Nat} {z : List Int} (h : IsRow .u8 w a len cap z) : ∃ l : List UInt8, len = l.length ∧ len ≤ maxLen ∧ len ≤ cap ∧ Rd w a l ∧ (a = none → cap = 0) := by
  rcases h with ⟨rfl, rfl, rfl, rfl⟩ | ⟨x, rfl, h1, h2, h3, h4, h5⟩
  · exact ⟨[], rfl, by unfold maxLen; omega, Nat.le_refl _, fun h => by simp at h, fun _ => rfl⟩
  · refine ⟨(z.take len).map fun n => UInt8.ofNat n.toNat, by simp; omega, by omega, h1, fun h0 => ⟨x, rfl, fun j hj => ?_⟩, fun h => by cases h⟩
    simp at hj
    have hz : z[j] ∈ z := List.getElem_mem _
    have hb := bounds_u8 (h5 _ hz)
    have hc := h4 j (by omega)
    have e : z.getD j 0 = z[j] := by rw [List.getD_eq_getElem?_getD, List.getElem?_eq_getElem]; rfl
    rw [e] at hc
    rw [hc]
    simp only [List.getElem_map, List.getElem_take, b8]
    congr 2
    simp; omega

set_option maxRecDepth 8000 in
set_option maxHeartbeats 1500000 in
theorem walk (a0 : ByteArray) (a1 : Option Addr) (len1 cap1 : Nat) (z1 : List Int) (a2 : Int) (w : World) (w0 : a0.size ≤ maxLen) (w1 : IsRow .u8 w a1 len1 cap1 z1) (w2 : (Lit.int .i64 a2).wf = true) :
    Calls Try.prog 5 #[.string a0, .slice a1 len1 cap1, .int .i64 a2] w fun e w' => e = .returned (.bool true) ∧ Below w.heap.size w w' := by
  obtain ⟨p, hp1, hp2, hp3, RP, hpn⟩ := bytes_of w1
  have kb := bounds_i64 w2
  clear w1 w2
  unfold maxLen at hp2 w0
  obtain ⟨t, ht⟩ : ∃ t, a0 = str t := ⟨a0.data.toList, rfl⟩
  have hts : a0.size = t.length := by rw [ht]; rfl
  by_cases h1 : 60 < t.length
  · have h1' : (60 : Int) < a0.size := by omega
    clear hp1 h1 ht hts
    go_enter Try.func5, Try.ntmps5
    go_wp2_with fail
    refine (awake_any _).mono ?_
    rintro e w1 ⟨rfl, h1⟩
    go_wp2_with fail
    refine (awake_any _).mono ?_
    rintro e w2 ⟨rfl, h2⟩
    go_wp2_with fail
    go_ret
    exact ⟨rfl, h1.trans (h2.mono h1.size)⟩
  by_cases h2 : len1 = 0
  · have h1' : ¬ (60 : Int) < a0.size := by omega
    have h2' : (len1 : Int) = 0 := by omega
    clear hp1 h1 ht hts
    go_enter Try.func5, Try.ntmps5
    go_wp2_with fail
    refine (awake_any _).mono ?_
    rintro e w1 ⟨rfl, h1⟩
    go_wp2_with fail
    refine (awake_any _).mono ?_
    rintro e w2 ⟨rfl, h2⟩
    go_wp2_with fail
    go_ret
    exact ⟨rfl, h1.trans (h2.mono h1.size)⟩
  by_cases h3 : 60 < p.length
  · have h1' : ¬ (60 : Int) < a0.size := by omega
    have h2' : ¬ (len1 : Int) = 0 := by omega
    have h2'' : ((len1 : Int) == 0) = false := by simp; omega
    have h3' : (60 : Int) < len1 := by omega
    clear hp1 h1 ht hts
    go_enter Try.func5, Try.ntmps5
    go_wp2_with fail
    refine (awake_any _).mono ?_
    rintro e w1 ⟨rfl, h1⟩
    go_wp2_with fail
    refine (awake_any _).mono ?_
    rintro e w2 ⟨rfl, h2⟩
    go_wp2_with fail
    go_ret
    exact ⟨rfl, h1.trans (h2.mono h1.size)⟩
  have h1' : ¬ (60 : Int) < a0.size := by omega
  have h2' : ¬ (len1 : Int) = 0 := by omega
  have h2'' : ((len1 : Int) == 0) = false := by simp; omega
  have h3' : ¬ (60 : Int) < len1 := by omega
  have hpl : t.length ≤ 60 ∧ len1 = p.length ∧ p.length ≤ 60 ∧ 0 < p.length := ⟨by omega, hp1, by omega, by omega⟩
  have HP := Lib.hid hpl
  have HT := Lib.hid ht
  clear hp1 h1 h2 h3 hpl ht hts w0
  have HRP := Lib.hid RP
  clear RP
  cases hok : nameOk t with
  | true =>
    have HO := Lib.hid hok
    clear hok
    go_enter Try.func5, Try.ntmps5
    go_wp2_with (first
      | (go_at_call 9; refine (awake_any _).mono ?_; rintro e w1 ⟨rfl, B0⟩; have c10 := new_rep w1 100 (by omega))
      | (go_at_call 10; refine c10.mono ?_; rintro e w2 ⟨q, T1, rfl, R1, B1, L1⟩; have c11 : Calls Try.prog 11 #[.pointer (some ⟨q, 0, none⟩), .string ⟨#[97]⟩] w2 _ := create_rep w2 T1 q (M.new 100) [97] R1 (show 0 < 10000000 by decide) (by decide); have hB2 := B0.trans (B1.mono B0.size); have L1 : ∀ k, T1 k ≠ .none → w.heap.size ≤ k := fun k hk => Nat.le_trans B0.size (L1 k hk); clear c10)
      | (go_at_call 11; refine c11.mono ?_; rintro e w3 ⟨rfl, T3, b, R3, X3, _⟩; rw [(k1 100 b).1] at R3; have L3 := X3.low hB2.size L1 R3; have B3 := hB2.trans (X3.below hB2.size L1); clear c11 R1 B1 hB2 X3 B0 L1)
      | (at_builtin; refine own_app rfl _ _ rfl (.slice none 0 0) [] p a1 len1 cap1 rfl rfl HP.out.2.1 (Or.inl ⟨rfl, rfl⟩) (HRP.out.at (fun ad e h0 => B3.block _ (HRP.out.lt h0 ad e))) hpn (by have := HP.out; simp; omega) ?_; intro A4 k4 c4 w4 hk4 O4 G4 W4; rw [List.nil_append] at O4; obtain ⟨g, x, e4, e5, y0, z0, hgl⟩ := own_ne O4 (by have := HP.out; omega); have HE4 := Lib.hid (And.intro e4 e5); subst e4; have hgs : g = w3.heap.size := own_new W4; have hgw : w.heap.size ≤ g := (by have := B3.size; omega); have B4 := B3.trans ((below_of_grown G4).mono B3.size); have R4 := R3.far (chg_grown G4) (fun _ _ h => by cases h); have hTg := R3.noneAt (k := g) (by omega); have c12 := append_rep w4 T3 q _ [97] p (some ⟨g, 0, none⟩) c4 R4 (show 1 < 1000000000 by decide) (by decide) ⟨own_rd O4, fun _ ad h => by cases h; exact ⟨hTg, hgl⟩⟩ (fun h => by cases h) (by have := HP.out; omega) (show -1000000000000 ≤ (100 : Int) by decide); rw [(k2 100 b p (by have := HP.out; omega)).1, (k2 100 b p (by have := HP.out; omega)).2, ← HE4.out.2] at c12; have hk0 : 0 < k4 := (by have := HP.out; have := HE4.out; omega); clear e5 O4 hk4 W4 hgs R3 B3 G4 R4)
      | (go_at_call 12; refine c12.mono ?_; rintro e w5 ⟨rfl, T5, R5, X5⟩; have L5 := X5.low B4.size L3 R5; have B5 := B4.trans (X5.below B4.size L3); have eg := X5.block g hgl hTg; have y5 := (World.cell?_of_block (a := ⟨g, 0, none⟩) eg).trans y0; have z5 := (World.frozen?_of_block (a := ⟨g, 0, none⟩) eg).trans z0; have hTg5 := (X5.tags g hgl).trans hTg; have HC18 := Lib.hid (fun (W : World) (hc : Chg w5 W (fun k => k = g)) => read_k2 W T5 q 100 b p (R5.far hc (fun k hk e => hk (by rw [e]; exact hTg5)))); have H5 := Lib.hid (And.intro R5 (And.intro B5 (And.intro L5 (And.intro hTg5 hgw)))); clear c12 y0 z0 eg R5 X5 B4 L3 hTg hgl HE4 B5 L5 hTg5 hgw)
      | (go_at_call 18; have c18 := HC18.out (w5.setCell ⟨g, 0, none⟩ (.int .u8 ((x + 1) % 256))) (chg_set w5 g 0 _); refine c18.mono ?_; rintro e w6 ⟨A6, k6, c6, rfl, hk6, F6, B6⟩; obtain ⟨R5, B5, L5, hTg5, hgw⟩ := H5.out; have R5' := R5.far (chg_set w5 g 0 (.int .u8 ((x + 1) % 256))) (fun k hk e => hk (by rw [e]; exact hTg5)); have R6 := R5'.below B6; have B5' := below_set (i := 0) (v := (.int .u8 ((x + 1) % 256))) B5 hgw; have B6' := B5'.trans (B6.mono B5'.size); obtain ⟨gr, xr, er, er2, yr, zr, hgrl⟩ := own_ne F6.1 (by have := HP.out; omega); subst er; have hgr := F6.2 gr rfl; have hTr := R5'.noneAt hgr; rw [size_set] at hgr; have hgrw : w.heap.size ≤ gr := (by have := B5.size; omega); have HD18 := Lib.hid (fun (W : World) (hc : Chg w6 W (fun k => k = gr)) => read_k2 W T5 q 100 b p (R6.far hc (fun k hk e => hk (by rw [e]; exact hTr)))); have hk60 : 0 < k6 := (by have := HP.out; have := hk6.out; omega); have H6 := Lib.hid (And.intro R6 (And.intro B6' (And.intro L5 (And.intro hTr hgrw)))); clear HC18 c18 F6 B6 R5' er2 y5 z5 R5 B5 L5 hTg5 hgw R6 B5' B6' hgr hTr hgrw hgrl H5 hk6)
      | (go_at_call 18; have d18 := HD18.out (w6.setCell ⟨gr, 0, none⟩ (.int .u8 ((xr + 1) % 256))) (chg_set w6 gr 0 _); refine d18.mono ?_; rintro e w7 ⟨A7, k7, c7, rfl, hk7, F7, B7⟩; obtain ⟨R6, B6', L5, hTr, hgrw⟩ := H6.out; have R6' := R6.far (chg_set w6 gr 0 (.int .u8 ((xr + 1) % 256))) (fun k hk e => hk (by rw [e]; exact hTr)); have R7 := R6'.below B7; have B6'' := below_set (i := 0) (v := (.int .u8 ((xr + 1) % 256))) B6' hgrw; have B7' := B6''.trans (B7.mono B6''.size); obtain ⟨gu, xu, eu, -, -, -, hgul⟩ := own_ne F7.1 (by have := HP.out; omega); have HA7 := Lib.hid eu; have hTu := R6'.noneAt (F7.2 gu (by rw [eu]; rfl)); have RU := own_rd F7.1; have H7 := Lib.hid (And.intro R7 (And.intro B7' (And.intro L5 (And.intro hTu RU)))); clear HD18 d18 F7 B7 R6' yr zr eu R6 B6' L5 hTr hgrw R7 B7' hTu RU B6'' hgul H6)
      | (go_at_call 20; (with_reducible refine (arm_nil _ _).mono ?_); rintro e w' ⟨rfl, rfl⟩)
      | (go_at_call 26; (with_reducible refine (room_nil _ _).mono ?_); rintro e w' ⟨rfl, rfl⟩)
      | (go_at_call 17; (with_reducible refine (fall_nil _ _ _).mono ?_); rintro e w' ⟨rfl, rfl⟩)
      | (go_at_call 18; (with_reducible refine (read_nil _ _).mono ?_); rintro e w' ⟨rfl, rfl⟩; have c27 := name_any w7 t (by have := HP.out; omega); rw [HO.out, ← HT.out] at c27)
      | (go_at_call 27; (with_reducible refine c27.mono ?_); rintro e w8 ⟨rfl, B8⟩; obtain ⟨R7, B7', L5, hTu, RU⟩ := H7.out; have R8 := R7.below B8; have B8' := B7'.trans (B8.mono B7'.size); have c28 := fun W => right_any W t (by have := HP.out; omega); rw [HO.out, ← HT.out] at c28; have d11 := create_rep w8 T5 q _ t R8 (show 2 < 10000000 by decide) (by have := HP.out; omega); rw [← HT.out] at d11; have hce : (((K2 100 b p).createE t : Nat) : Int) ≠ 1 := (fun h => by have h2 := (createE_arg (K2 100 b p) t).1 (by omega); rw [HO.out] at h2; cases h2); generalize (K2 100 b p).createE t = ce at *; have hce2 : ((ce : Int) == 1) = false := (by simpa using hce); have H8 := Lib.hid (And.intro B8 (And.intro B8' (And.intro L5 (And.intro hTu RU)))); clear c27 R7 B7' R8 B8 B8' L5 hTu RU H7)
      | (go_at_call 28; (with_reducible refine (c28 _).mono ?_); rintro e w' ⟨rfl, rfl⟩)
      | (go_at_call 11; refine d11.mono ?_; rintro e w9 ⟨rfl, T9, b9, _, X9, _⟩; obtain ⟨B8, B8', L5, hTu, RU⟩ := H8.out; have L5' : ∀ k, T5 k ≠ .none → w.heap.size ≤ k := L5; have B9 := B8'.trans (X9.below B8'.size L5'); have RU9 := (RU.at (fun ad e h0 => B8.block _ (RU.lt h0 ad e))).at (fun ad e h0 => X9.block ad.block (Nat.lt_of_lt_of_le (RU.lt h0 ad e) B8.size) (by rw [HA7.out] at e; injection e with e; rw [← e]; exact hTu)); have cv1 := conv_any RU9 k7 c7 hk7.out; have cv2 := conv_any (w := w9) (A := a1) (HRP.out.at (fun ad e h0 => B9.block _ (HRP.out.lt h0 ad e))) len1 cap1 HP.out.2.1; have H9 := Lib.hid B9; clear d11 RU RU9 B8 B8' L5 L5' hTu H8 X9 B9)
      | (go_at_call 29; (with_reducible refine (list_nil _).mono ?_); rintro e w' ⟨rfl, rfl⟩)
      | (go_at_call 14; (with_reducible refine (names_nil _).mono ?_); rintro e w' ⟨rfl, rfl⟩)
      | (go_at_call 30; (with_reducible refine (used_nil _).mono ?_); rintro e w' ⟨rfl, rfl⟩)
      | (go_at_call 21; (with_reducible refine (done_nil _).mono ?_); rintro e w' ⟨rfl, rfl⟩)
      | (go_at_call 31; (with_reducible refine (moves_nil _).mono ?_); rintro e w' ⟨rfl, rfl⟩)
      | (go_at_call 22; (with_reducible refine (on_nil _).mono ?_); rintro e w' ⟨rfl, rfl⟩)
      | go_in)
    go_ret
    exact ⟨rfl, H9.out⟩
  | false =>
    have HO := Lib.hid hok
    clear hok
    go_enter Try.func5, Try.ntmps5
    go_wp2_with (first
      | (go_at_call 9; refine (awake_any _).mono ?_; rintro e w1 ⟨rfl, B0⟩; have c10 := new_rep w1 100 (by omega))
      | (go_at_call 10; refine c10.mono ?_; rintro e w2 ⟨q, T1, rfl, R1, B1, L1⟩; have c11 : Calls Try.prog 11 #[.pointer (some ⟨q, 0, none⟩), .string ⟨#[97]⟩] w2 _ := create_rep w2 T1 q (M.new 100) [97] R1 (show 0 < 10000000 by decide) (by decide); have hB2 := B0.trans (B1.mono B0.size); have L1 : ∀ k, T1 k ≠ .none → w.heap.size ≤ k := fun k hk => Nat.le_trans B0.size (L1 k hk); clear c10)
      | (go_at_call 11; refine c11.mono ?_; rintro e w3 ⟨rfl, T3, b, R3, X3, _⟩; rw [(k1 100 b).1] at R3; have L3 := X3.low hB2.size L1 R3; have B3 := hB2.trans (X3.below hB2.size L1); clear c11 R1 B1 hB2 X3 B0 L1)
      | (at_builtin; refine own_app rfl _ _ rfl (.slice none 0 0) [] p a1 len1 cap1 rfl rfl HP.out.2.1 (Or.inl ⟨rfl, rfl⟩) (HRP.out.at (fun ad e h0 => B3.block _ (HRP.out.lt h0 ad e))) hpn (by have := HP.out; simp; omega) ?_; intro A4 k4 c4 w4 hk4 O4 G4 W4; rw [List.nil_append] at O4; obtain ⟨g, x, e4, e5, y0, z0, hgl⟩ := own_ne O4 (by have := HP.out; omega); have HE4 := Lib.hid (And.intro e4 e5); subst e4; have hgs : g = w3.heap.size := own_new W4; have hgw : w.heap.size ≤ g := (by have := B3.size; omega); have B4 := B3.trans ((below_of_grown G4).mono B3.size); have R4 := R3.far (chg_grown G4) (fun _ _ h => by cases h); have hTg := R3.noneAt (k := g) (by omega); have c12 := append_rep w4 T3 q _ [97] p (some ⟨g, 0, none⟩) c4 R4 (show 1 < 1000000000 by decide) (by decide) ⟨own_rd O4, fun _ ad h => by cases h; exact ⟨hTg, hgl⟩⟩ (fun h => by cases h) (by have := HP.out; omega) (show -1000000000000 ≤ (100 : Int) by decide); rw [(k2 100 b p (by have := HP.out; omega)).1, (k2 100 b p (by have := HP.out; omega)).2, ← HE4.out.2] at c12; have hk0 : 0 < k4 := (by have := HP.out; have := HE4.out; omega); clear e5 O4 hk4 W4 hgs R3 B3 G4 R4)
      | (go_at_call 12; refine c12.mono ?_; rintro e w5 ⟨rfl, T5, R5, X5⟩; have L5 := X5.low B4.size L3 R5; have B5 := B4.trans (X5.below B4.size L3); have eg := X5.block g hgl hTg; have y5 := (World.cell?_of_block (a := ⟨g, 0, none⟩) eg).trans y0; have z5 := (World.frozen?_of_block (a := ⟨g, 0, none⟩) eg).trans z0; have hTg5 := (X5.tags g hgl).trans hTg; have HC18 := Lib.hid (fun (W : World) (hc : Chg w5 W (fun k => k = g)) => read_k2 W T5 q 100 b p (R5.far hc (fun k hk e => hk (by rw [e]; exact hTg5)))); have H5 := Lib.hid (And.intro R5 (And.intro B5 (And.intro L5 (And.intro hTg5 hgw)))); clear c12 y0 z0 eg R5 X5 B4 L3 hTg hgl HE4 B5 L5 hTg5 hgw)
      | (go_at_call 18; have c18 := HC18.out (w5.setCell ⟨g, 0, none⟩ (.int .u8 ((x + 1) % 256))) (chg_set w5 g 0 _); refine c18.mono ?_; rintro e w6 ⟨A6, k6, c6, rfl, hk6, F6, B6⟩; obtain ⟨R5, B5, L5, hTg5, hgw⟩ := H5.out; have R5' := R5.far (chg_set w5 g 0 (.int .u8 ((x + 1) % 256))) (fun k hk e => hk (by rw [e]; exact hTg5)); have R6 := R5'.below B6; have B5' := below_set (i := 0) (v := (.int .u8 ((x + 1) % 256))) B5 hgw; have B6' := B5'.trans (B6.mono B5'.size); obtain ⟨gr, xr, er, er2, yr, zr, hgrl⟩ := own_ne F6.1 (by have := HP.out; omega); subst er; have hgr := F6.2 gr rfl; have hTr := R5'.noneAt hgr; rw [size_set] at hgr; have hgrw : w.heap.size ≤ gr := (by have := B5.size; omega); have HD18 := Lib.hid (fun (W : World) (hc : Chg w6 W (fun k => k = gr)) => read_k2 W T5 q 100 b p (R6.far hc (fun k hk e => hk (by rw [e]; exact hTr)))); have hk60 : 0 < k6 := (by have := HP.out; have := hk6.out; omega); have H6 := Lib.hid (And.intro R6 (And.intro B6' (And.intro L5 (And.intro hTr hgrw)))); clear HC18 c18 F6 B6 R5' er2 y5 z5 R5 B5 L5 hTg5 hgw R6 B5' B6' hgr hTr hgrw hgrl H5 hk6)
      | (go_at_call 18; have d18 := HD18.out (w6.setCell ⟨gr, 0, none⟩ (.int .u8 ((xr + 1) % 256))) (chg_set w6 gr 0 _); refine d18.mono ?_; rintro e w7 ⟨A7, k7, c7, rfl, hk7, F7, B7⟩; obtain ⟨R6, B6', L5, hTr, hgrw⟩ := H6.out; have R6' := R6.far (chg_set w6 gr 0 (.int .u8 ((xr + 1) % 256))) (fun k hk e => hk (by rw [e]; exact hTr)); have R7 := R6'.below B7; have B6'' := below_set (i := 0) (v := (.int .u8 ((xr + 1) % 256))) B6' hgrw; have B7' := B6''.trans (B7.mono B6''.size); obtain ⟨gu, xu, eu, -, -, -, hgul⟩ := own_ne F7.1 (by have := HP.out; omega); have HA7 := Lib.hid eu; have hTu := R6'.noneAt (F7.2 gu (by rw [eu]; rfl)); have RU := own_rd F7.1; have H7 := Lib.hid (And.intro R7 (And.intro B7' (And.intro L5 (And.intro hTu RU)))); clear HD18 d18 F7 B7 R6' yr zr eu R6 B6' L5 hTr hgrw R7 B7' hTu RU B6'' hgul H6)
      | (go_at_call 20; (with_reducible refine (arm_nil _ _).mono ?_); rintro e w' ⟨rfl, rfl⟩)
      | (go_at_call 26; (with_reducible refine (room_nil _ _).mono ?_); rintro e w' ⟨rfl, rfl⟩)
      | (go_at_call 17; (with_reducible refine (fall_nil _ _ _).mono ?_); rintro e w' ⟨rfl, rfl⟩)
      | (go_at_call 18; (with_reducible refine (read_nil _ _).mono ?_); rintro e w' ⟨rfl, rfl⟩; have c27 := name_any w7 t (by have := HP.out; omega); rw [HO.out, ← HT.out] at c27)
      | (go_at_call 27; (with_reducible refine c27.mono ?_); rintro e w8 ⟨rfl, B8⟩; obtain ⟨R7, B7', L5, hTu, RU⟩ := H7.out; have R8 := R7.below B8; have B8' := B7'.trans (B8.mono B7'.size); have c28 := fun W => right_any W t (by have := HP.out; omega); rw [HO.out, ← HT.out] at c28; have d11 := create_rep w8 T5 q _ t R8 (show 2 < 10000000 by decide) (by have := HP.out; omega); rw [← HT.out] at d11; rw [(createE_arg (K2 100 b p) t).2 HO.out] at d11; have H8 := Lib.hid (And.intro B8 (And.intro B8' (And.intro L5 (And.intro hTu RU)))); clear c27 R7 B7' R8 B8 B8' L5 hTu RU H7)
      | (go_at_call 28; (with_reducible refine (c28 _).mono ?_); rintro e w' ⟨rfl, rfl⟩)
      | (go_at_call 11; refine d11.mono ?_; rintro e w9 ⟨rfl, T9, b9, _, X9, _⟩; obtain ⟨B8, B8', L5, hTu, RU⟩ := H8.out; have L5' : ∀ k, T5 k ≠ .none → w.heap.size ≤ k := L5; have B9 := B8'.trans (X9.below B8'.size L5'); have RU9 := (RU.at (fun ad e h0 => B8.block _ (RU.lt h0 ad e))).at (fun ad e h0 => X9.block ad.block (Nat.lt_of_lt_of_le (RU.lt h0 ad e) B8.size) (by rw [HA7.out] at e; injection e with e; rw [← e]; exact hTu)); have cv1 := conv_any RU9 k7 c7 hk7.out; have cv2 := conv_any (w := w9) (A := a1) (HRP.out.at (fun ad e h0 => B9.block _ (HRP.out.lt h0 ad e))) len1 cap1 HP.out.2.1; have H9 := Lib.hid B9; clear d11 RU RU9 B8 B8' L5 L5' hTu H8 X9 B9)
      | (go_at_call 29; (with_reducible refine (list_nil _).mono ?_); rintro e w' ⟨rfl, rfl⟩)
      | (go_at_call 14; (with_reducible refine (names_nil _).mono ?_); rintro e w' ⟨rfl, rfl⟩)
      | (go_at_call 30; (with_reducible refine (used_nil _).mono ?_); rintro e w' ⟨rfl, rfl⟩)
      | (go_at_call 21; (with_reducible refine (done_nil _).mono ?_); rintro e w' ⟨rfl, rfl⟩)
      | (go_at_call 31; (with_reducible refine (moves_nil _).mono ?_); rintro e w' ⟨rfl, rfl⟩)
      | (go_at_call 22; (with_reducible refine (on_nil _).mono ?_); rintro e w' ⟨rfl, rfl⟩)
      | go_in)
    go_ret
    exact ⟨rfl, H9.out⟩

set_option maxRecDepth 100000 in
theorem lifted (os : Os) (started : os.Started) (H : Type) (enc : TypeId × Value → H) :
    ReturnsInHanded {} Try.checked os 5 .any (Rows.shelfNamesSpec.pre6 enc Try.prog Try.f5 Rows.shelfNamesRow.domain false) (Rows.shelfNamesSpec.post enc Try.prog Try.f5 false true false false) := by
  refine returnsInHanded_of_change (C := Try.checked) own started (by kernel_rfl) Try.func5
    (ChangeSpec.witness6 (enc := enc) (C := Try.checked) false ⟨#[], #[.string ByteArray.empty, .slice none 0 0, .int .i64 0], []⟩ 8 (by kernel_rfl) (by kernel_rfl) (by kernel_rfl) (by kernel_rfl)) ?_
  intro W base args ds gs before hval0 hW hcnd _
  have hval : ∀ (j : Nat) t v, Try.f5.params[j]? = some t → args[j]? = some v → Value.okWide Try.prog W .any base t v := hval0
  have hW' := hW
  obtain ⟨p, q, hA0, hV, rfl, hfz, hnd⟩ := hW
  have hA : DataW.TrodAll enc Try.prog W 0 (fun _ => true) true Try.f5.params.toList args.toList ds p := hA0
  rw [Try.params5] at hA hval
  obtain ⟨v0, vs0, d0, ds0, p0, q0, hargs, rfl, rfl, h0, r0⟩ := trodAll_cons hA
  obtain ⟨v1, vs1, d1, ds1, p1, q1, rfl, rfl, rfl, h1, r1⟩ := trodAll_cons r0
  obtain ⟨v2, vs2, d2, ds2, p2, q2, rfl, rfl, rfl, h2, r2⟩ := trodAll_cons r1
  obtain ⟨rfl, rfl, rfl⟩ := trodAll_nil r2
  obtain rfl : args = #[v0, v1, v2] := by cases args; simp_all
  obtain ⟨rfl, rfl⟩ := trodVars_none hV
  obtain ⟨a0, rfl, rfl, rfl, w0⟩ := open_string Try.underlying9 (hval 0 9 v0 rfl rfl) h0
  obtain ⟨a1, len1, cap1, rfl⟩ := okWide_slice Try.underlying22 (hval 1 22 v1 rfl rfl)
  have k1 := h1
  have lt1 : ∀ x ∈ p1, x.block < W.heap.size := by obtain ⟨m, hm⟩ := k1; exact DataW.trod_lt m _ _ _ hm
  obtain ⟨z1, w1⟩ : ∃ zs, IsRow .u8 W a1 len1 cap1 zs := by
    obtain ⟨fuel, hf⟩ := h1
    rcases open_ints Try.underlying22 Try.underlying5 (by kernel_rfl) hf with ⟨hcs, _⟩ | ⟨x, l, c, zs, hcs, _, hl, hm, hz, _, hcell, hwz⟩
    · simp [Value.cells] at hcs
      obtain ⟨rfl, rfl, rfl⟩ := hcs
      exact ⟨[], .inl ⟨rfl, rfl, rfl, rfl⟩⟩
    · simp [Value.cells] at hcs
      obtain ⟨rfl, rfl, rfl⟩ := hcs
      exact ⟨zs, .inr ⟨_, rfl, hl, hm, by simpa using hz, hcell, hwz⟩⟩
  obtain ⟨a2, rfl, rfl, rfl, w2⟩ := open_int Try.underlying3 (hval 2 3 v2 rfl rfl) h2
  clear hA0 hval0
  refine (walk a0 a1 len1 cap1 z1 a2 W w0 w1 w2).mono fun e W' ⟨he, bel⟩ => ?_
  subst he
  exact ⟨_, rfl, _, _, _, [], _, [], hW', trodAll_mk1 (shut_bool Try.underlying4 _), (trodAll_cons_mk (shut_string Try.underlying9 w0) (trodAll_cons_mk (Below.trod laidOut (by kernel_rfl) (of_decide_eq_true (by kernel_rfl)) k1 bel lt1) (trodAll_cons_mk (shut_int Try.underlying3 w2) trodAll_mk0))), rfl, bel.frame _, fun h => by cases h⟩

theorem over : Rows.shelfNamesRow.holds Try.pinned (OpenSpec.ofChange Rows.shelfNamesSpec) :=
  OpenClaim.holds_of_wide 5 Try.f5 rfl rfl rfl rfl rfl rfl rfl ⟨rfl, rfl, rfl, rfl, rfl⟩ rfl rfl rfl rfl rfl (by kernel_rfl) Try.func5 (by kernel_rfl)
    (of_decide_eq_true (by kernel_rfl)) (by unfold Func.isWrapper; first | (rw [if_pos (by decide +kernel)]; kernel_rfl) | (rw [if_neg (by decide +kernel)]; exact ⟨rfl, rfl⟩))
    (fun os started H enc _ => lifted os started H enc)

theorem proved : Rows.ShelfNamesSaid := over
#print axioms proved
end Go.Proofs.Ytkalgonkaoiapaa.shelfNames
