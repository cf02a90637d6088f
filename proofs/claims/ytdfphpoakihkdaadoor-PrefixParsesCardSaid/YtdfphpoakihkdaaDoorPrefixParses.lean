/-
  'For every input the Go function milestonelaw01.PrefixParses returns true, and each argument reads behind the call as it read before.'
  Conditions: none but the row's own (linux/amd64, sizes of what is read within the address space).
-/
import Derived.Test.YtdfphpoakihkdaaDoorRows
import Derived.WalkKit
import Derived.ProofKit
import Derived.OpenShut
import Derived.ShutString
import Derived.ChangeOld
import Derived.Below
import Derived.Lib.SmallJoins
import Derived.Lib.Hide
import Derived.Test.YtdfphpoakihkdaaDoorBack
import Derived.Test.YtdfphpoakihkdaaDoorLaid
import Derived.Test.YtdfphpoakihkdaaDoorCards
import Derived.Test.YtdfphpoakihkdaaDoorTie
import Derived.SevenTiedAt
import Derived.Lib.ConvBytes
import Derived.Deep.RegionHeld3
namespace Go.Proofs.YtdfphpoakihkdaaDoor.prefixParses
open Pre
open Go.Sort
open Go.ChangeShapes Go.WideShapes Go.ChangeAt Go.RowKit
open Go.ChangeMaps (open_string shut_string)
set_option linter.unusedVariables false

theorem own : ownKnob Tryd.prog.godebug = none := by kernel_rfl
theorem laidOut : laidOutB Tryd.prog = true := by kernel_rfl

/-- What stays of the text's bytes, and of all that is older. -/
def Kept (w : World) (g : Nat) (l : List UInt8) (x : World) : Prop :=
  (∀ j (hj : j < l.length), x.cell? ⟨g, j, none⟩ = some (.int .u8 (l[j].toNat : Int))) ∧ g < x.heap.size ∧ Below w.heap.size w x
theorem Kept.drew {w : World} {g : Nat} {l : List UInt8} {x : World} (h : Kept w g l x) : Kept w g l x.drew := ⟨fun j hj => by simpa [go_sem] using h.1 j hj, h.2.1, h.2.2.drew⟩
theorem Kept.alloc {w : World} {g : Nat} {l : List UInt8} {x : World} (h : Kept w g l x) (o : Obj) : Kept w g l (x.alloc o) :=
  ⟨fun j hj => by rw [World.cell?_alloc_past _ _ _ h.2.1]; exact h.1 j hj, by have := h.2.1; simp; omega, h.2.2.alloc (h.2.2.size) o⟩
theorem Kept.conv {w : World} {g : Nat} {l : List UInt8} {x : World} (h : Kept w g l x) (L cap : Nat) (hL : L = l.length) : (convert 41 9 (.slice (some ⟨g, 0, none⟩) L cap)).run Tryd.prog x = .ok (.string ⟨l.toArray⟩) x := by
  subst hL
  refine run_convert_bytes_back (P := Tryd.prog) x 41 9 5 ⟨g, 0, none⟩ cap l Tryd.underlying41 Tryd.underlying5 Tryd.underlying9 (fun j hj => ?_)
  rw [show (⟨g, 0, none⟩ : Addr).add j = ⟨g, j, none⟩ by unfold Addr.add; split <;> simp_all]
  exact h.1 j hj
theorem Kept.convTake {w : World} {g : Nat} {l : List UInt8} {x : World} (h : Kept w g l x) (k cap : Nat) (hk : k < l.length) : (convert 41 9 (.slice (some ⟨g, 0, none⟩) k cap)).run Tryd.prog x = .ok (.string ⟨(l.take k).toArray⟩) x := by
  have h' : Kept w g (l.take k) x := ⟨fun j hj => by
    have hj' : j < l.length := by simp at hj; omega
    rw [h.1 j hj']; simp, h.2.1, h.2.2⟩
  exact h'.conv k cap (by simp; omega)
theorem kept_start {w w3 : World} {t : ByteArray} {k : Nat} {c : Nat} (hk : k < t.size) (hc : c ≤ 255) (hb : Below w.heap.size w w3) :
    Kept w w3.heap.size (t.data.toList.set k (UInt8.ofNat c)) ((Lib.bytesWorld w3 5 t).setCell ⟨w3.heap.size, k, none⟩ (.int .u8 c)) := by
  have hc0 := Lib.bytesWorld_cell w3 5 t k hk
  refine ⟨fun j hj => ?_, by have := Lib.bytesWorld_size w3 5 t; simp; omega, ?_⟩
  · have hjt : j < t.size := by simpa using hj
    by_cases h : k = j
    · subst h
      rw [World.cell?_setCell_same _ _ _ hc0]
      simp; omega
    · rw [World.cell?_setCell_other _ _ _ _ (by intro e; cases e; exact h rfl), Lib.bytesWorld_cell w3 5 t j hjt]
      simp [h, List.getD, hjt]
  · have hbw : Below w3.heap.size w3 (Lib.bytesWorld w3 5 t) := ⟨rfl, rfl, rfl, by rw [Lib.bytesWorld_size]; omega, fun i hi => Lib.bytesWorld_at_old w3 5 t i hi⟩
    exact (bstep hb hbw).setCell hb.size _
theorem bytes_frozen (w3 : World) (t : ByteArray) (k : Nat) (hk : k < t.size) : (Lib.bytesWorld w3 5 t).frozen? ⟨w3.heap.size, k, none⟩ = false := by
  simp [World.frozen?, Lib.bytesWorld_at_new, Lib.bytesCells]; omega
theorem text_pos (P N : Nat) : 0 < (⟨(text P N).toArray⟩ : ByteArray).size := by
  rw [text_dec]; simp only [ByteArray.size_append]
  have e1 : (⟨#[46]⟩ : ByteArray).size = 1 := rfl
  omega

theorem slice_to (W : World) (g len cap k : Nat) (hk : k ≤ cap) (hc : 0 < cap) : (Instr.slice 41 (.slice (some ⟨g, 0, none⟩) len cap) none (some (.int .i64 (k : Int))) none).run Tryd.prog W = .ok (.slice (some ⟨g, 0, none⟩) k cap) W := by
  have ht' : Tryd.prog.underlying 41 = some (.slice (Tryd.prog.elem 41)) := by simp [Program.elem, Tryd.underlying41]
  have he : Tryd.prog.elem 41 = 5 := by simp [Program.elem, Tryd.underlying41]
  have hne : ¬ cap = 0 := by omega
  rw [run_slice_h W 41 _ _ _ ht' .i64 _ (by omega) (by omega), he, Tryd.sizeOf5]
  simp [Result.andThen, sliced, Addr.add, hne]
/-- The region's relation: the bytes, and what their two conversions are. -/
theorem held_of {w : World} {g : Nat} {l : List UInt8} {x : World} {T1 T2 : ByteArray} {L k cap : Nat} (hL : L = l.length) (hk : k < l.length) (e1 : T1 = ⟨l.toArray⟩) (e2 : T2 = ⟨(l.take k).toArray⟩) (h : Kept w g l x) :
    Kept w g l x ∧ (convert 41 9 (.slice (some ⟨g, 0, none⟩) L cap)).run Tryd.prog x = .ok (.string T1) x ∧ (convert 41 9 (.slice (some ⟨g, 0, none⟩) k cap)).run Tryd.prog x = .ok (.string T2) x := by
  subst e1 e2
  exact ⟨h, h.conv L cap hL, h.convTake k cap hk⟩

set_option maxHeartbeats 4000000 in
theorem walk (a0 : ByteArray) (a1 : Int) (a2 : Int) (a3 : Int) (a4 : Int) (w : World) (w0 : a0.size ≤ maxLen) (w1 : (Lit.int .u32 a1).wf = true) (w2 : (Lit.int .u8 a2).wf = true) (w3 : (Lit.int .u8 a3).wf = true) (w4 : (Lit.int .u8 a4).wf = true) (hp : Pow w) :
    Calls Tryd.prog 8 #[.string a0, .int .u32 a1, .int .u8 a2, .int .u8 a3, .int .u8 a4] w fun e w' => e = .returned (.bool true) ∧ Below w.heap.size w w' := by
  have w0s := w0
  unfold maxLen at w0s
  have b0 := bounds_u32 w1
  have b1 := bounds_u8 w2
  have b2 := bounds_u8 w3
  have b3 := bounds_u8 w4
  clear w1 w2 w3 w4
  obtain ⟨a, rfl⟩ := Int.eq_ofNat_of_zero_le b0.1
  obtain ⟨n, rfl⟩ := Int.eq_ofNat_of_zero_le b1.1
  obtain ⟨q, rfl⟩ := Int.eq_ofNat_of_zero_le b2.1
  obtain ⟨c, rfl⟩ := Int.eq_ofNat_of_zero_le b3.1
  have ha : a < 4294967296 := by omega
  have hn : n ≤ 255 := by omega
  have hq : q ≤ 255 := by omega
  have hc : c ≤ 255 := by omega
  clear b0 b1 b2 b3
  by_cases h60 : 60 < a0.size
  · have h60' : (60 : Int) < (a0.size : Int) := by omega
    go_enter Tryd.func8, Tryd.ntmps8
    go_wp2_with fail
    refine (awake_any _ hp).mono ?_
    rintro e w1 ⟨rfl, hb1⟩
    have hp1 : Pow w1 := pow_below hp hb1 (pow_size hp)
    go_wp2_with fail
    refine (awake_any _ hp1).mono ?_
    rintro e w2 ⟨rfl, hb2⟩
    go_wp2_with fail
    go_ret
    exact ⟨rfl, bstep hb1 hb2⟩
  · have hN := len_le n
    have hP := top_lt (a := a) (n := n) ha
    have h60' : decide ((60 : Int) < (a0.size : Int)) = false := by simp; omega
    go_enter Tryd.func8, Tryd.ntmps8
    go_wp2_with fail
    refine (awake_any _ hp).mono ?_
    rintro e w1 ⟨rfl, hb1⟩
    have hp1 : Pow w1 := pow_below hp hb1 (pow_size hp)
    go_wp2_with fail
    refine (rof_any a n ha hn _).mono ?_
    rintro e w2 ⟨rfl, hb2⟩
    have B2 : Below w.heap.size w w2 := bstep hb1 hb2
    go_wp2_with fail
    refine (rtext_any (top a n) (len n) hP (by omega) _).mono ?_
    rintro e w3 ⟨rfl, hb3⟩
    have B3 : Below w.heap.size w w3 := bstep B2 hb3
    have ht := text_size (top a n) (len n) hP (by omega)
    have htp := text_pos (top a n) (len n)
    generalize (⟨(text ((top a n : Nat) : Int) ((len n : Nat) : Int)).toArray⟩ : ByteArray) = t at *
    clear hb1 hb2 hb3 hN hP B2 hp1
    have hcb := Lib.run_convert_string_bytes (P := Tryd.prog) w3 9 41 5 t Tryd.underlying9 Tryd.underlying41 Tryd.underlying5
    have hcg := grownCap_ge w3 t.size 0 5
    have hcm := grownCap_le_maxLen w3 t.size 0 5 (by unfold maxLen; omega)
    generalize grownCap w3 t.size 0 5 = cap at *
    have hk : q % t.size < t.size := Nat.mod_lt _ htp
    have hne : ¬ t = ByteArray.empty := by rintro rfl; simp at htp
    have htpi : (0 : Int) < (t.size : Int) := by omega
    have hc0 := Lib.bytesWorld_cell w3 5 t (q % t.size) hk
    have hf0 := bytes_frozen w3 t (q % t.size) hk
    have hks := kept_start (c := c) hk hc B3
    have hqi : (q : Int) % (t.size : Int) = ((q % t.size : Nat) : Int) := by simp
    have hqt : (q : Int).tmod (t.size : Int) = ((q % t.size : Nat) : Int) := by rw [Int.tmod_eq_emod_of_nonneg (by omega)]; simp
    have HL : Hid ((t.data.toList.set (q % t.size) (UInt8.ofNat c)).length = t.size) := by show _ = _; simp
    generalize q % t.size = k at *
    generalize t.data.toList.set k (UInt8.ofNat c) = l at *
    unfold maxLen at hcm
    obtain ⟨C, hCC⟩ : ∃ C : ByteArray, C = ⟨[UInt8.ofNat c].toArray⟩ := ⟨_, rfl⟩
    have hC : C.size = 1 := by rw [hCC]; rfl
    replace hCC := Lib.hid hCC
    go_wp2_with fail
    generalize (Lib.bytesWorld w3 5 t).setCell ⟨w3.heap.size, k, none⟩ (.int .u8 c) = W at *
    generalize w3.heap.size = g at *
    clear hcb hc0 hf0 B3
    have hLl : t.size = l.length := HL.symm
    have hkl : k < l.length := by omega
    obtain ⟨T1, hT1⟩ : ∃ T1 : ByteArray, T1 = ⟨l.toArray⟩ := ⟨_, rfl⟩
    obtain ⟨T2, hT2⟩ : ∃ T2 : ByteArray, T2 = ⟨(l.take k).toArray⟩ := ⟨_, rfl⟩
    have hs1 : T1.size = t.size := by rw [hT1]; show l.toArray.size = _; simp [hLl]
    have hs2 : T2.size ≤ t.size := by rw [hT2]; show (l.take k).toArray.size ≤ _; simp; omega
    have hsum : ¬ 9223372036854775807 < T1.size + C.size := by omega
    have hst := held_of (T1 := T1) (T2 := T2) (L := t.size) (cap := cap) hLl hkl hT1 hT2 hks.drew
    have hcap0 : ¬ cap = 0 := by omega
    have hwq : IntKind.i64.wrap (q : Int) = (q : Int) := by rw [IntKind.wrap_i64]; omega
    have hal := fun (o : Obj) => held_of (T1 := T1) (T2 := T2) (L := t.size) (cap := cap) hLl hkl hT1 hT2 (hks.alloc o).drew
    have hal2 := fun (o o2 : Obj) => held_of (T1 := T1) (T2 := T2) (L := t.size) (cap := cap) hLl hkl hT1 hT2 ((hks.alloc o).alloc o2).drew
    replace hal2 := Lib.hid hal2
    replace hal := Lib.hid hal
    clear hLl hT1 hT2
    have hcv0 := run_convert_bytes_back (P := Tryd.prog) ((W.alloc (.cells #[.int .u8 (c : Int)] 5)).drew) 41 9 5 ⟨W.heap.size, 0, none⟩ 1 [UInt8.ofNat c] Tryd.underlying41 Tryd.underlying5 Tryd.underlying9 (fun j hj => by
      obtain rfl : j = 0 := by simpa using hj
      simp [Addr.add, go_sem]; omega)
    simp only [List.length_cons, List.length_nil, Nat.zero_add] at hcv0
    rw [← hCC.out] at hcv0
    clear hCC
    have hki : (0 : Int) ≤ (k : Int) := by omega
    have hkt : (k : Int) ≤ (t.size : Int) := by omega
    have hktc : (k : Int) ≤ (cap : Int) := by omega
    have hsum2 : ¬ 9223372036854775807 < t.size + 1 := by omega
    refine wp_region_noPanic ?_
    refine wp_region_held_drew (S := (fun x => Kept w g l x ∧ (convert 41 9 (.slice (some ⟨g, 0, none⟩) t.size cap)).run Tryd.prog x = .ok (.string T1) x ∧ (convert 41 9 (.slice (some ⟨g, 0, none⟩) k cap)).run Tryd.prog x = .ok (.string T2) x)) (by kernel_rfl) hst (fun hHeld => ?_)
    refine wpAnyH_take (i := 0) (oi := { dst := some 37, op := Op.move (Operand.tmp 0), type := 9, pos := "law.go:66", after := #[], guard := none }) (v := .string a0) rfl (by kernel_rfl) (by kernel_rfl) (by kernel_rfl) (fun _ _ _ h => h) (Or.inl ⟨by rfl, fun w hSw => by (try dsimp only at hSw); go_simp⟩) (by assumption) ?_
    try simp only [Act.put, List.setIfInBounds_toArray, List.set_cons_zero, List.set_cons_succ]
    refine wpAnyH_take (i := 1) (oi := { dst := some 38, op := Op.move (Operand.tmp 11), type := 41, pos := "law.go:66", after := #[], guard := none }) (v := .slice (some ⟨g, 0, none⟩) t.size cap) rfl (by kernel_rfl) (by kernel_rfl) (by kernel_rfl) (fun _ _ _ h => h) (Or.inl ⟨by rfl, fun w hSw => by (try dsimp only at hSw); go_simp⟩) (by assumption) ?_
    try simp only [Act.put, List.setIfInBounds_toArray, List.set_cons_zero, List.set_cons_succ]
    refine wpAnyH_take (i := 3) (oi := { dst := some 40, op := Op.move (Operand.tmp 11), type := 41, pos := "law.go:66", after := #[], guard := none }) (v := .slice (some ⟨g, 0, none⟩) t.size cap) rfl (by kernel_rfl) (by kernel_rfl) (by kernel_rfl) (fun _ _ _ h => h) (Or.inl ⟨by rfl, fun w hSw => by (try dsimp only at hSw); go_simp⟩) (by assumption) ?_
    try simp only [Act.put, List.setIfInBounds_toArray, List.set_cons_zero, List.set_cons_succ]
    refine wpAnyH_take (i := 5) (oi := { dst := some 42, op := Op.move (Operand.tmp 4), type := 5, pos := "law.go:66", after := #[], guard := none }) (v := .int .u8 (c : Int)) rfl (by kernel_rfl) (by kernel_rfl) (by kernel_rfl) (fun _ _ _ h => h) (Or.inl ⟨by rfl, fun w hSw => by (try dsimp only at hSw); go_simp⟩) (by assumption) ?_
    try simp only [Act.put, List.setIfInBounds_toArray, List.set_cons_zero, List.set_cons_succ]
    refine wpAnyH_take (i := 9) (oi := { dst := some 46, op := Op.move (Operand.tmp 11), type := 41, pos := "law.go:66", after := #[], guard := none }) (v := .slice (some ⟨g, 0, none⟩) t.size cap) rfl (by kernel_rfl) (by kernel_rfl) (by kernel_rfl) (fun _ _ _ h => h) (Or.inl ⟨by rfl, fun w hSw => by (try dsimp only at hSw); go_simp⟩) (by assumption) ?_
    try simp only [Act.put, List.setIfInBounds_toArray, List.set_cons_zero, List.set_cons_succ]
    refine wpAnyH_take (i := 10) (oi := { dst := some 47, op := Op.move (Operand.tmp 3), type := 5, pos := "law.go:66", after := #[], guard := none }) (v := .int .u8 (q : Int)) rfl (by kernel_rfl) (by kernel_rfl) (by kernel_rfl) (fun _ _ _ h => h) (Or.inl ⟨by rfl, fun w hSw => by (try dsimp only at hSw); go_simp⟩) (by assumption) ?_
    try simp only [Act.put, List.setIfInBounds_toArray, List.set_cons_zero, List.set_cons_succ]
    refine wpAnyH_take (i := 11) (oi := { dst := some 48, op := Op.convert 5 3 (Operand.tmp 47), type := 3, pos := "law.go:66", after := #[{ on := 10, ground := Ground.data }], guard := none }) (v := .int .i64 (q : Int)) rfl (by kernel_rfl) (by kernel_rfl) (by kernel_rfl) (fun _ _ _ h => h) (Or.inl ⟨by rfl, fun w hSw => by (try dsimp only at hSw); go_simp⟩) (by assumption) ?_
    try simp only [Act.put, List.setIfInBounds_toArray, List.set_cons_zero, List.set_cons_succ]
    refine wpAnyH_take (i := 12) (oi := { dst := some 49, op := Op.move (Operand.tmp 11), type := 41, pos := "law.go:66", after := #[], guard := none }) (v := .slice (some ⟨g, 0, none⟩) t.size cap) rfl (by kernel_rfl) (by kernel_rfl) (by kernel_rfl) (fun _ _ _ h => h) (Or.inl ⟨by rfl, fun w hSw => by (try dsimp only at hSw); go_simp⟩) (by assumption) ?_
    try simp only [Act.put, List.setIfInBounds_toArray, List.set_cons_zero, List.set_cons_succ]
    refine wpAnyH_take (i := 13) (oi := { dst := some 50, op := Op.call { callee := Callee.builtin Builtin.len, args := #[Operand.tmp 49], argTypes := #[41] }, type := 3, pos := "law.go:66", after := #[{ on := 12, ground := Ground.data }], guard := none }) (v := .int .i64 (t.size : Int)) rfl (by kernel_rfl) (by kernel_rfl) (by kernel_rfl) (fun _ _ _ h => h) (Or.inl ⟨by rfl, fun w hSw => by (try dsimp only at hSw); go_simp⟩) (by assumption) ?_
    try simp only [Act.put, List.setIfInBounds_toArray, List.set_cons_zero, List.set_cons_succ]
    refine wpAnyH_take (i := 14) (oi := { dst := some 51, op := Op.binOp BinOp.rem 3 (Operand.tmp 48) (Operand.tmp 50) 3, type := 3, pos := "law.go:66", after := #[{ on := 11, ground := Ground.data }, { on := 13, ground := Ground.data }], guard := none }) (v := .int .i64 (k : Int)) rfl (by kernel_rfl) (by kernel_rfl) (by kernel_rfl) (fun _ _ _ h => h) (Or.inl ⟨by rfl, fun w hSw => by (try dsimp only at hSw); go_simp⟩) (by assumption) ?_
    try simp only [Act.put, List.setIfInBounds_toArray, List.set_cons_zero, List.set_cons_succ]
    refine wpAnyH_take (i := 15) (oi := { dst := some 52, op := Op.slice 41 (Operand.tmp 46) none (some (Operand.tmp 51)) none, type := 41, pos := "law.go:66", after := #[{ on := 9, ground := Ground.data }, { on := 14, ground := Ground.data }], guard := none }) (v := .slice (some ⟨g, 0, none⟩) k cap) rfl (by kernel_rfl) (by kernel_rfl) (by kernel_rfl) (fun _ _ _ h => h) (Or.inl ⟨by rfl, fun w hSw => by (try dsimp only at hSw); go_simp⟩) (by assumption) ?_
    try simp only [Act.put, List.setIfInBounds_toArray, List.set_cons_zero, List.set_cons_succ]
    refine wpAnyH_take (i := 19) (oi := { dst := some 56, op := Op.move (Operand.const (Value.int IntKind.i64 0)), type := 3, pos := "law.go:66", after := #[], guard := none }) (v := .int .i64 0) rfl (by kernel_rfl) (by kernel_rfl) (by kernel_rfl) (fun _ _ _ h => h) (Or.inl ⟨by rfl, fun w hSw => by (try dsimp only at hSw); go_simp⟩) (by assumption) ?_
    try simp only [Act.put, List.setIfInBounds_toArray, List.set_cons_zero, List.set_cons_succ]
    refine wpAnyH_take (i := 2) (oi := { dst := some 39, op := Op.convert 41 9 (Operand.tmp 38), type := 9, pos := "law.go:66", after := #[{ on := 1, ground := Ground.data }], guard := none }) (v := .string T1) rfl (by kernel_rfl) (by kernel_rfl) (by kernel_rfl) (fun _ _ _ h => h) (Or.inl ⟨by rfl, fun w hSw => by (try dsimp only at hSw); go_simp⟩) (by assumption) ?_
    try simp only [Act.put, List.setIfInBounds_toArray, List.set_cons_zero, List.set_cons_succ]
    refine wpAnyH_take (i := 4) (oi := { dst := some 41, op := Op.convert 41 9 (Operand.tmp 40), type := 9, pos := "law.go:66", after := #[{ on := 3, ground := Ground.data }], guard := none }) (v := .string T1) rfl (by kernel_rfl) (by kernel_rfl) (by kernel_rfl) (fun _ _ _ h => h) (Or.inl ⟨by rfl, fun w hSw => by (try dsimp only at hSw); go_simp⟩) (by assumption) ?_
    try simp only [Act.put, List.setIfInBounds_toArray, List.set_cons_zero, List.set_cons_succ]
    refine wpAnyH_take (i := 16) (oi := { dst := some 53, op := Op.convert 41 9 (Operand.tmp 52), type := 9, pos := "law.go:66", after := #[{ on := 15, ground := Ground.data }], guard := none }) (v := .string T2) rfl (by kernel_rfl) (by kernel_rfl) (by kernel_rfl) (fun _ _ _ h => h) (Or.inl ⟨by rfl, fun w hSw => by (try dsimp only at hSw); go_simp⟩) (by assumption) ?_
    try simp only [Act.put, List.setIfInBounds_toArray, List.set_cons_zero, List.set_cons_succ]
    refine wpAnyH_ready (rs := [6]) (by kernel_rfl) (by simp) ?_
    refine AllReadyH.cons (o := { dst := some 43, op := Op.buildSlice 41 1 #[(0, Operand.tmp 42)], type := 41, pos := "law.go:66", after := #[{ on := 5, ground := Ground.data }], guard := none }) rfl (fun K hK => ?_) AllReadyH.nil
    go_simp
    refine hK.out _ _ (hal.out _) (fun hHeld => ?_)
    clear hK K
    try simp only [Act.put, List.setIfInBounds_toArray, List.set_cons_zero, List.set_cons_succ]
    refine wpAnyH_ready (rs := [7]) (by kernel_rfl) (by simp) ?_
    refine AllReadyH.cons (o := { dst := some 44, op := Op.convert 41 9 (Operand.tmp 43), type := 9, pos := "law.go:66", after := #[{ on := 6, ground := Ground.data }], guard := none }) rfl (fun K hK => ?_) AllReadyH.nil
    go_simp
    refine hK.out _ _ (hal.out _) (fun hHeld => ?_)
    clear hK K
    try simp only [Act.put, List.setIfInBounds_toArray, List.set_cons_zero, List.set_cons_succ]
    refine wpAnyH_take (i := 8) (oi := { dst := some 45, op := Op.binOp BinOp.add 9 (Operand.tmp 41) (Operand.tmp 44) 9, type := 9, pos := "law.go:66", after := #[{ on := 4, ground := Ground.data }, { on := 7, ground := Ground.data }], guard := none }) (v := .string (T1 ++ C)) rfl (by kernel_rfl) (by kernel_rfl) (by kernel_rfl) (fun _ _ _ h => h) (Or.inl ⟨by rfl, fun w hSw => by (try dsimp only at hSw); go_simp⟩) (by assumption) ?_
    try simp only [Act.put, List.setIfInBounds_toArray, List.set_cons_zero, List.set_cons_succ]
    refine wpAnyH_ready (rs := [17]) (by kernel_rfl) (by simp) ?_
    refine AllReadyH.cons (o := { dst := some 54, op := Op.buildSlice 42 4 #[(0, Operand.tmp 37), (1, Operand.tmp 39), (2, Operand.tmp 45), (3, Operand.tmp 53)], type := 42, pos := "law.go:66", after := #[{ on := 0, ground := Ground.data }, { on := 2, ground := Ground.data }, { on := 8, ground := Ground.data }, { on := 16, ground := Ground.data }], guard := none }) rfl (fun K hK => ?_) AllReadyH.nil
    go_simp
    refine hK.out _ _ (hal2.out _ _) (fun hHeld => ?_)
    clear hK K
    try simp only [Act.put, List.setIfInBounds_toArray, List.set_cons_zero, List.set_cons_succ]
    refine wpAnyH_take (i := 18) (oi := { dst := some 55, op := Op.call { callee := Callee.builtin Builtin.len, args := #[Operand.tmp 54], argTypes := #[42] }, type := 3, pos := "law.go:66", after := #[{ on := 17, ground := Ground.data }], guard := none }) (v := .int .i64 4) rfl (by kernel_rfl) (by kernel_rfl) (by kernel_rfl) (fun _ _ _ h => h) (Or.inl ⟨by rfl, fun w hSw => by (try dsimp only at hSw); go_simp⟩) (by assumption) ?_
    try simp only [Act.put, List.setIfInBounds_toArray, List.set_cons_zero, List.set_cons_succ]
    refine wpAnyH_done (by kernel_rfl) ?_ _
    try unfold NoPanic
    have hks2 := (((hks.alloc (.cells #[.int .u8 (c : Int)] 5)).alloc (.cells #[.string a0, .string T1, .string (T1 ++ C), .string T2] 9))).drew.2.2
    have hs3 : (T1 ++ C).size ≤ 20 := by simp; omega
    have c0 : ((W.alloc (.cells #[.int .u8 (c : Int)] 5)).alloc (.cells #[.string a0, .string T1, .string (T1 ++ C), .string T2] 9)).drew.cell? ⟨W.heap.size + 1, 0, none⟩ = some (.string a0) := by simp [go_sem]
    have c1 : ((W.alloc (.cells #[.int .u8 (c : Int)] 5)).alloc (.cells #[.string a0, .string T1, .string (T1 ++ C), .string T2] 9)).drew.cell? ⟨W.heap.size + 1, 1, none⟩ = some (.string T1) := by simp [go_sem]
    have c2 : ((W.alloc (.cells #[.int .u8 (c : Int)] 5)).alloc (.cells #[.string a0, .string T1, .string (T1 ++ C), .string T2] 9)).drew.cell? ⟨W.heap.size + 1, 2, none⟩ = some (.string (T1 ++ C)) := by simp [go_sem]
    have c3 : ((W.alloc (.cells #[.int .u8 (c : Int)] 5)).alloc (.cells #[.string a0, .string T1, .string (T1 ++ C), .string T2] 9)).drew.cell? ⟨W.heap.size + 1, 3, none⟩ = some (.string T2) := by simp [go_sem]
    have hGz : W.heap.size + 1 < ((W.alloc (.cells #[.int .u8 (c : Int)] 5)).alloc (.cells #[.string a0, .string T1, .string (T1 ++ C), .string T2] 9)).drew.heap.size := by simp
    clear hst hal hal2 hcv0 hks
    generalize T1 ++ C = T3 at *
    generalize ((W.alloc (.cells #[.int .u8 (c : Int)] 5)).alloc (.cells #[.string a0, .string T1, .string T3, .string T2] 9)).drew = Z at *
    have hpZ : Pow Z := pow_below hp hks2 (pow_size hp)
    generalize W.heap.size + 1 = G at *
    have b0 : a0.size ≤ maxLen := by unfold maxLen; omega
    have b1 : T1.size ≤ maxLen := by unfold maxLen; omega
    have b2 : T3.size ≤ maxLen := by unfold maxLen; omega
    have b3 : T2.size ≤ maxLen := by unfold maxLen; omega
    clear hcg hcm hne htpi hqi hqt hk hkl HL hs1 hs2 hs3 hsum hcap0 hwq hki hkt hktc hC ht htp
    go_wp2_with fail
    rename_i hHeld
    clear hHeld
    go_loopw [56] (fun i wr => ∃ z : Int, (z = 0 ∨ z = 1 ∨ z = 2 ∨ z = 3 ∨ z = 4) ∧ i = .int .i64 z ∧ Below Z.heap.size Z wr) (fun i _ => 4 - (intOf i).toNat)
    case atStart => exact ⟨0, by omega, rfl, Below.refl _ _⟩
    case round =>
      obtain ⟨z, hz, rfl, hb⟩ := hrel
      have hpr : Pow wr := pow_below hpZ hb (pow_size hpZ)
      clear hpZ
      rcases hz with rfl | rfl | rfl | rfl | rfl
      · have hi0 : wr.cell? ⟨G, 0, none⟩ = some (.string a0) := by rw [(bcell hb).1 _ _ hGz]; exact c0
        clear c0 c1 c2 c3
        have hpa := parse_any a0 b0 wr hpr
        clear b0 b1 b2 b3
        go_wp2_with fail
        refine hpa.mono ?_
        rintro e w4 ⟨hb4, ⟨P, N, hP, hN, hR, hx, rfl⟩ | rfl⟩
        · have B4 : Below Z.heap.size Z w4 := bstep hb hb4
          have hrt := fun W => rtext_any P N hP hN W
          have hri := fun W => rright_any P N hP hN W
          rw [← hx] at hrt
          rw [hR] at hri
          have d0 : (w4.alloc (.cells #[.int .u32 (P : Nat), .int .u8 (N : Nat)] 24)).cell? ⟨w4.heap.size, 0, none⟩ = some (.int .u32 P) := by simp [go_sem]
          have d1 : (w4.alloc (.cells #[.int .u32 (P : Nat), .int .u8 (N : Nat)] 24)).cell? ⟨w4.heap.size, 1, none⟩ = some (.int .u8 N) := by simp [go_sem]
          have hlt : w4.heap.size < (w4.alloc (.cells #[.int .u32 (P : Nat), .int .u8 (N : Nat)] 24)).heap.size := by simp
          have hBa : Below Z.heap.size Z (w4.alloc (.cells #[.int .u32 (P : Nat), .int .u8 (N : Nat)] 24)) := B4.alloc B4.size _
          clear hx hR hpa hb4
          go_wp2_with fail
          refine (hrt _).mono ?_
          rintro e w5 ⟨rfl, hb5⟩
          have e0 : w5.cell? ⟨w4.heap.size, 0, none⟩ = some (.int .u32 P) := by rw [(bcell hb5).1 _ _ hlt]; exact d0
          have e1 : w5.cell? ⟨w4.heap.size, 1, none⟩ = some (.int .u8 N) := by rw [(bcell hb5).1 _ _ hlt]; exact d1
          have B5 : Below Z.heap.size Z w5 := bstep hBa hb5
          clear hb5 hBa d0 d1 hlt B4
          go_wp2_with fail
          refine (hri _).mono ?_
          rintro e w6 ⟨rfl, hb6⟩
          have B6 : Below Z.heap.size Z w6 := bstep B5 hb6
          clear B5 e0 e1 hb6 hrt hri
          go_wp2_with fail
          go_roundw
          case rel => exact ⟨0+1, by omega, rfl, B6⟩
          case measure => simp [intOf]
        · have B4 : Below Z.heap.size Z w4 := bstep hb hb4
          have hBa : Below Z.heap.size Z (w4.alloc (.cells #[.int .u32 (0 : Nat), .int .u8 (0 : Nat)] 24)) := B4.alloc B4.size _
          clear hb4 hpa
          go_wp2_with fail
          go_roundw
          case rel => exact ⟨0+1, by omega, rfl, hBa⟩
          case measure => simp [intOf]
      · have hi0 : wr.cell? ⟨G, 1, none⟩ = some (.string T1) := by rw [(bcell hb).1 _ _ hGz]; exact c1
        clear c0 c1 c2 c3
        have hpa := parse_any T1 b1 wr hpr
        clear b0 b1 b2 b3
        go_wp2_with fail
        refine hpa.mono ?_
        rintro e w4 ⟨hb4, ⟨P, N, hP, hN, hR, hx, rfl⟩ | rfl⟩
        · have B4 : Below Z.heap.size Z w4 := bstep hb hb4
          have hrt := fun W => rtext_any P N hP hN W
          have hri := fun W => rright_any P N hP hN W
          rw [← hx] at hrt
          rw [hR] at hri
          have d0 : (w4.alloc (.cells #[.int .u32 (P : Nat), .int .u8 (N : Nat)] 24)).cell? ⟨w4.heap.size, 0, none⟩ = some (.int .u32 P) := by simp [go_sem]
          have d1 : (w4.alloc (.cells #[.int .u32 (P : Nat), .int .u8 (N : Nat)] 24)).cell? ⟨w4.heap.size, 1, none⟩ = some (.int .u8 N) := by simp [go_sem]
          have hlt : w4.heap.size < (w4.alloc (.cells #[.int .u32 (P : Nat), .int .u8 (N : Nat)] 24)).heap.size := by simp
          have hBa : Below Z.heap.size Z (w4.alloc (.cells #[.int .u32 (P : Nat), .int .u8 (N : Nat)] 24)) := B4.alloc B4.size _
          clear hx hR hpa hb4
          go_wp2_with fail
          refine (hrt _).mono ?_
          rintro e w5 ⟨rfl, hb5⟩
          have e0 : w5.cell? ⟨w4.heap.size, 0, none⟩ = some (.int .u32 P) := by rw [(bcell hb5).1 _ _ hlt]; exact d0
          have e1 : w5.cell? ⟨w4.heap.size, 1, none⟩ = some (.int .u8 N) := by rw [(bcell hb5).1 _ _ hlt]; exact d1
          have B5 : Below Z.heap.size Z w5 := bstep hBa hb5
          clear hb5 hBa d0 d1 hlt B4
          go_wp2_with fail
          refine (hri _).mono ?_
          rintro e w6 ⟨rfl, hb6⟩
          have B6 : Below Z.heap.size Z w6 := bstep B5 hb6
          clear B5 e0 e1 hb6 hrt hri
          go_wp2_with fail
          go_roundw
          case rel => exact ⟨1+1, by omega, rfl, B6⟩
          case measure => simp [intOf]
        · have B4 : Below Z.heap.size Z w4 := bstep hb hb4
          have hBa : Below Z.heap.size Z (w4.alloc (.cells #[.int .u32 (0 : Nat), .int .u8 (0 : Nat)] 24)) := B4.alloc B4.size _
          clear hb4 hpa
          go_wp2_with fail
          go_roundw
          case rel => exact ⟨1+1, by omega, rfl, hBa⟩
          case measure => simp [intOf]
      · have hi0 : wr.cell? ⟨G, 2, none⟩ = some (.string T3) := by rw [(bcell hb).1 _ _ hGz]; exact c2
        clear c0 c1 c2 c3
        have hpa := parse_any T3 b2 wr hpr
        clear b0 b1 b2 b3
        go_wp2_with fail
        refine hpa.mono ?_
        rintro e w4 ⟨hb4, ⟨P, N, hP, hN, hR, hx, rfl⟩ | rfl⟩
        · have B4 : Below Z.heap.size Z w4 := bstep hb hb4
          have hrt := fun W => rtext_any P N hP hN W
          have hri := fun W => rright_any P N hP hN W
          rw [← hx] at hrt
          rw [hR] at hri
          have d0 : (w4.alloc (.cells #[.int .u32 (P : Nat), .int .u8 (N : Nat)] 24)).cell? ⟨w4.heap.size, 0, none⟩ = some (.int .u32 P) := by simp [go_sem]
          have d1 : (w4.alloc (.cells #[.int .u32 (P : Nat), .int .u8 (N : Nat)] 24)).cell? ⟨w4.heap.size, 1, none⟩ = some (.int .u8 N) := by simp [go_sem]
          have hlt : w4.heap.size < (w4.alloc (.cells #[.int .u32 (P : Nat), .int .u8 (N : Nat)] 24)).heap.size := by simp
          have hBa : Below Z.heap.size Z (w4.alloc (.cells #[.int .u32 (P : Nat), .int .u8 (N : Nat)] 24)) := B4.alloc B4.size _
          clear hx hR hpa hb4
          go_wp2_with fail
          refine (hrt _).mono ?_
          rintro e w5 ⟨rfl, hb5⟩
          have e0 : w5.cell? ⟨w4.heap.size, 0, none⟩ = some (.int .u32 P) := by rw [(bcell hb5).1 _ _ hlt]; exact d0
          have e1 : w5.cell? ⟨w4.heap.size, 1, none⟩ = some (.int .u8 N) := by rw [(bcell hb5).1 _ _ hlt]; exact d1
          have B5 : Below Z.heap.size Z w5 := bstep hBa hb5
          clear hb5 hBa d0 d1 hlt B4
          go_wp2_with fail
          refine (hri _).mono ?_
          rintro e w6 ⟨rfl, hb6⟩
          have B6 : Below Z.heap.size Z w6 := bstep B5 hb6
          clear B5 e0 e1 hb6 hrt hri
          go_wp2_with fail
          go_roundw
          case rel => exact ⟨2+1, by omega, rfl, B6⟩
          case measure => simp [intOf]
        · have B4 : Below Z.heap.size Z w4 := bstep hb hb4
          have hBa : Below Z.heap.size Z (w4.alloc (.cells #[.int .u32 (0 : Nat), .int .u8 (0 : Nat)] 24)) := B4.alloc B4.size _
          clear hb4 hpa
          go_wp2_with fail
          go_roundw
          case rel => exact ⟨2+1, by omega, rfl, hBa⟩
          case measure => simp [intOf]
      · have hi0 : wr.cell? ⟨G, 3, none⟩ = some (.string T2) := by rw [(bcell hb).1 _ _ hGz]; exact c3
        clear c0 c1 c2 c3
        have hpa := parse_any T2 b3 wr hpr
        clear b0 b1 b2 b3
        go_wp2_with fail
        refine hpa.mono ?_
        rintro e w4 ⟨hb4, ⟨P, N, hP, hN, hR, hx, rfl⟩ | rfl⟩
        · have B4 : Below Z.heap.size Z w4 := bstep hb hb4
          have hrt := fun W => rtext_any P N hP hN W
          have hri := fun W => rright_any P N hP hN W
          rw [← hx] at hrt
          rw [hR] at hri
          have d0 : (w4.alloc (.cells #[.int .u32 (P : Nat), .int .u8 (N : Nat)] 24)).cell? ⟨w4.heap.size, 0, none⟩ = some (.int .u32 P) := by simp [go_sem]
          have d1 : (w4.alloc (.cells #[.int .u32 (P : Nat), .int .u8 (N : Nat)] 24)).cell? ⟨w4.heap.size, 1, none⟩ = some (.int .u8 N) := by simp [go_sem]
          have hlt : w4.heap.size < (w4.alloc (.cells #[.int .u32 (P : Nat), .int .u8 (N : Nat)] 24)).heap.size := by simp
          have hBa : Below Z.heap.size Z (w4.alloc (.cells #[.int .u32 (P : Nat), .int .u8 (N : Nat)] 24)) := B4.alloc B4.size _
          clear hx hR hpa hb4
          go_wp2_with fail
          refine (hrt _).mono ?_
          rintro e w5 ⟨rfl, hb5⟩
          have e0 : w5.cell? ⟨w4.heap.size, 0, none⟩ = some (.int .u32 P) := by rw [(bcell hb5).1 _ _ hlt]; exact d0
          have e1 : w5.cell? ⟨w4.heap.size, 1, none⟩ = some (.int .u8 N) := by rw [(bcell hb5).1 _ _ hlt]; exact d1
          have B5 : Below Z.heap.size Z w5 := bstep hBa hb5
          clear hb5 hBa d0 d1 hlt B4
          go_wp2_with fail
          refine (hri _).mono ?_
          rintro e w6 ⟨rfl, hb6⟩
          have B6 : Below Z.heap.size Z w6 := bstep B5 hb6
          clear B5 e0 e1 hb6 hrt hri
          go_wp2_with fail
          go_roundw
          case rel => exact ⟨3+1, by omega, rfl, B6⟩
          case measure => simp [intOf]
        · have B4 : Below Z.heap.size Z w4 := bstep hb hb4
          have hBa : Below Z.heap.size Z (w4.alloc (.cells #[.int .u32 (0 : Nat), .int .u8 (0 : Nat)] 24)) := B4.alloc B4.size _
          clear hb4 hpa
          go_wp2_with fail
          go_roundw
          case rel => exact ⟨3+1, by omega, rfl, hBa⟩
          case measure => simp [intOf]
      · go_wp2_with fail
        go_ret
        exact ⟨rfl, bstep hks2 hb⟩

set_option maxRecDepth 100000 in
theorem lifted (os : Os) (started : os.Started) (H : Type) (enc : TypeId × Value → H) :
    ReturnsInHanded {} Tryd.checked os 8 .any (fun w args => (Rows.prefixParsesSpec.pre enc Tryd.prog Tryd.f8 Rows.prefixParsesRow.domain false w args ∧ laidMet Tryd.prog Rows.prefixParsesRow.laid w) ∧ sizedMet enc Tryd.prog Tryd.f8 (OpenSpec.ofChange Rows.prefixParsesSpec) false w args)
      (Rows.prefixParsesSpec.post enc Tryd.prog Tryd.f8 false true false false) := by
  refine returnsInHanded_of_change_and (C := Tryd.checked) (X := fun w _ => laidMet Tryd.prog Rows.prefixParsesRow.laid w) (fun _ _ _ hh h => h.of_heap hh) own started (by kernel_rfl) Tryd.func8
    (ChangeSpec.witness_at (enc := enc) (C := Tryd.checked) (os := os) (X := fun w _ => laidMet Tryd.prog Rows.prefixParsesRow.laid w) false (laidWorld os) #[.string ByteArray.empty, .int .u32 0, .int .u8 0, .int .u8 0, .int .u8 0] 8 rfl (by kernel_rfl) (by kernel_rfl) (by kernel_rfl) (by kernel_rfl) (by kernel_rfl) (laid_met os _)) ?_
  intro W base args ds gs before hval0 hW hcnd _ hL _
  have hval : ∀ (j : Nat) t v, Tryd.f8.params[j]? = some t → args[j]? = some v → Value.okWide Tryd.prog W .any base t v := hval0
  have hW' := hW
  obtain ⟨p, q, hA0, hV, rfl, hfz, hnd⟩ := hW
  have hA : DataW.TrodAll enc Tryd.prog W 0 (fun _ => true) true Tryd.f8.params.toList args.toList ds p := hA0
  rw [Tryd.params8] at hA hval
  obtain ⟨v0, vs0, d0, ds0, p0, q0, hargs, rfl, rfl, h0, r0⟩ := trodAll_cons hA
  obtain ⟨v1, vs1, d1, ds1, p1, q1, rfl, rfl, rfl, h1, r1⟩ := trodAll_cons r0
  obtain ⟨v2, vs2, d2, ds2, p2, q2, rfl, rfl, rfl, h2, r2⟩ := trodAll_cons r1
  obtain ⟨v3, vs3, d3, ds3, p3, q3, rfl, rfl, rfl, h3, r3⟩ := trodAll_cons r2
  obtain ⟨v4, vs4, d4, ds4, p4, q4, rfl, rfl, rfl, h4, r4⟩ := trodAll_cons r3
  obtain ⟨rfl, rfl, rfl⟩ := trodAll_nil r4
  obtain rfl : args = #[v0, v1, v2, v3, v4] := by cases args; simp_all
  obtain ⟨rfl, rfl⟩ := trodVars_none hV
  obtain ⟨a0, rfl, rfl, rfl, w0⟩ := open_string Tryd.underlying9 (hval 0 9 v0 rfl rfl) h0
  obtain ⟨a1, rfl, rfl, rfl, w1⟩ := open_int Tryd.underlying22 (hval 1 22 v1 rfl rfl) h1
  obtain ⟨a2, rfl, rfl, rfl, w2⟩ := open_int Tryd.underlying5 (hval 2 5 v2 rfl rfl) h2
  obtain ⟨a3, rfl, rfl, rfl, w3⟩ := open_int Tryd.underlying5 (hval 3 5 v3 rfl rfl) h3
  obtain ⟨a4, rfl, rfl, rfl, w4⟩ := open_int Tryd.underlying5 (hval 4 5 v4 rfl rfl) h4
  clear hA0 hval0
  refine (walk a0 a1 a2 a3 a4 W w0 w1 w2 w3 w4 (pow_of_laid hL)).mono fun e W' ⟨he, bel⟩ => ?_
  subst he
  exact ⟨_, rfl, _, _, _, [], _, [], hW', trodAll_mk1 (shut_bool Tryd.underlying4 _), (trodAll_cons_mk (shut_string Tryd.underlying9 w0) (trodAll_cons_mk (shut_int Tryd.underlying22 w1) (trodAll_cons_mk (shut_int Tryd.underlying5 w2) (trodAll_cons_mk (shut_int Tryd.underlying5 w3) (trodAll_cons_mk (shut_int Tryd.underlying5 w4) trodAll_mk0))))), rfl, bel.frame _, fun h => by cases h⟩

theorem over : Rows.prefixParsesRow.holds Tryd.pinned (OpenSpec.ofChange Rows.prefixParsesSpec) :=
  OpenClaim.holds_of_wide 8 Tryd.f8 rfl rfl rfl rfl rfl rfl rfl ⟨rfl, rfl, rfl, rfl, rfl⟩ rfl rfl rfl rfl rfl (by kernel_rfl) Tryd.func8 (by kernel_rfl)
    (of_decide_eq_true (by kernel_rfl)) (by unfold Func.isWrapper; first | (rw [if_pos (by decide +kernel)]; kernel_rfl) | (rw [if_neg (by decide +kernel)]; exact ⟨rfl, rfl⟩))
    (fun os started H enc _ => lifted os started H enc)

theorem proved : Rows.PrefixParsesCardSaid :=
  Claim7.holds_tied_plain_at .later [] [.data, .data, .data] true (true, "7cfdeb993fdfbec8b9b5e67db3be9459c695c22a0ecd678560527101ee5685f7") false
    over (fun _ h => by cases h) (by kernel_rfl) (fun _ h => by cases h) prefixParses_row_tie rfl ⟨rfl, rfl⟩ (by kernel_rfl) rfl
    (fun f fn hf hfn => by
      obtain rfl : f = 8 := Option.some.inj ((show Tryd.prog.funcNamed "milestone/milestonelaw01.PrefixParses" = some 8 by kernel_rfl).symm.trans hf) |>.symm
      obtain rfl : fn = Tryd.f8 := (Option.some.inj (Tryd.func8.symm.trans hfn)).symm
      exact ⟨by kernel_rfl, fun j t ht => by
        rw [Tryd.params8] at ht
        have hm : t ∈ [9, 22, 5, 5, 5] := by simpa using Array.mem_of_getElem? ht
        have hall : ([9, 22, 5, 5, 5].all fun u => !Tryd.prog.wantsStandIn u) = true := by kernel_rfl
        exact (show Tryd.prog.wantsStandIn t = false by simpa using List.all_eq_true.1 hall t hm)⟩)
    (by kernel_rfl)
#print axioms proved
end Go.Proofs.YtdfphpoakihkdaaDoor.prefixParses
