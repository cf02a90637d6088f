/- The serial package's contracts in table's seat: newer, nearer, best. -/
import Derived.Test.YtkbhmdoichiinaaPFns
namespace Go.Proofs.Ytkbhmdoichiinaa.Ser
open Go.ChangeShapes Go.WideShapes Go.ChangeAt Go.RowKit
set_option maxRecDepth 4000

theorem ret_bool {a b : Bool} (h : a = b) : Ending.returned (.bool a) = .returned (.bool b) := by rw [h]
theorem ret_int {k : IntKind} {a b : Int} (h : a = b) : Ending.returned (.int k a) = .returned (.int k b) := by rw [h]

def newer (a b : Int) : Bool := decide (1 ≤ (a - b) % 65536 ∧ (a - b) % 65536 ≤ 32767)

theorem newer_any (a b : Int) (w : World) :
    Calls Try.prog 59 #[.int .u16 a, .int .u16 b] w fun e w' => e = .returned (.bool (newer a b)) ∧ w = w' := by
  go_enter Try.func59, Try.ntmps59
  go_wp2
  · go_ret
    refine ⟨ret_bool ?_, rfl⟩
    rename_i h
    simp only [IntKind.wrap_u16] at h ⊢
    unfold newer; rw [decide_eq_decide]; omega
  · go_ret
    refine ⟨ret_bool ?_, rfl⟩
    rename_i h
    simp only [IntKind.wrap_u16] at h ⊢
    unfold newer; symm; rw [decide_eq_false_iff_not]; omega

theorem rnewer_any (a b : Int) (ha : 0 ≤ a ∧ a ≤ 65535) (hb : 0 ≤ b ∧ b ≤ 65535) (w : World) :
    Calls Try.prog 45 #[.int .u16 a, .int .u16 b] w fun e w' => e = .returned (.bool (newer a b)) ∧ w = w' := by
  go_enter Try.func45, Try.ntmps45
  go_wp2
  · go_ret
    refine ⟨ret_bool ?_, rfl⟩
    unfold newer; rw [decide_eq_decide]; omega
  · go_ret
    refine ⟨ret_bool ?_, rfl⟩
    unfold newer; symm; rw [decide_eq_false_iff_not]; omega

def nearer (s m t n : Int) : Bool := newer s t || (s == t && decide (m < n))

theorem newer_self (s : Int) : newer s s = false := by
  unfold newer; rw [decide_eq_false_iff_not]; omega

theorem nearer_any (s m t n : Int) (w : World) :
    Calls Try.prog 38 #[.agg #[.int .u16 s, .int .u16 m], .agg #[.int .u16 t, .int .u16 n]] w fun e w' => e = .returned (.bool (nearer s m t n)) ∧ Below w.heap.size w w' := by
  cases h : newer s t
  · by_cases hs : s = t
    · subst hs
      have hb : (s == s) = true := by simp
      go_enter Try.func38, Try.ntmps38
      go_wp2_with (go_at_call 59; refine (newer_any _ _ _).mono ?_; rintro e w' ⟨rfl, rfl⟩)
      go_ret
      exact ⟨ret_bool (by simp [nearer, newer_self]), ((Below.refl _ _).alloc (Nat.le_refl _) _).alloc (by simp) _⟩
    · have hb : (s == t) = false := by simpa using hs
      go_enter Try.func38, Try.ntmps38
      go_wp2_with (go_at_call 59; refine (newer_any _ _ _).mono ?_; rintro e w' ⟨rfl, rfl⟩)
      go_ret
      exact ⟨ret_bool (by simp [nearer, h, hb]), ((Below.refl _ _).alloc (Nat.le_refl _) _).alloc (by simp) _⟩
  · go_enter Try.func38, Try.ntmps38
    go_wp2_with (go_at_call 59; refine (newer_any _ _ _).mono ?_; rintro e w' ⟨rfl, rfl⟩)
    go_ret
    exact ⟨ret_bool (by simp [nearer, h]), ((Below.refl _ _).alloc (Nat.le_refl _) _).alloc (by simp) _⟩

theorem rnearer_any (s m t n : Int) (hs : 0 ≤ s ∧ s ≤ 65535) (ht : 0 ≤ t ∧ t ≤ 65535) (w : World) :
    Calls Try.prog 24 #[.agg #[.int .u16 s, .int .u16 m], .agg #[.int .u16 t, .int .u16 n]] w fun e w' => e = .returned (.bool (nearer s m t n)) ∧ Below w.heap.size w w' := by
  by_cases h : s = t
  · subst h
    have hb : (s == s) = true := by simp
    go_enter Try.func24, Try.ntmps24
    go_wp2
    go_ret
    exact ⟨ret_bool (by simp [nearer, newer_self]), ((Below.refl _ _).alloc (Nat.le_refl _) _).alloc (by simp) _⟩
  · have hb : (s == t) = false := by simpa using h
    go_enter Try.func24, Try.ntmps24
    go_wp2_with (go_at_call 45; refine (rnewer_any _ _ (by omega) (by omega) _).mono ?_; rintro e w' ⟨rfl, rfl⟩)
    go_ret
    exact ⟨ret_bool (by simp [nearer, hb]), ((Below.refl _ _).alloc (Nat.le_refl _) _).alloc (by simp) _⟩

theorem nearer_eq (s m t n : Int) {b : Bool} (h : nearer s m t n = b) (w : World) :
    Calls Try.prog 38 #[.agg #[.int .u16 s, .int .u16 m], .agg #[.int .u16 t, .int .u16 n]] w fun e w' => e = .returned (.bool b) ∧ Below w.heap.size w w' := by
  subst h; exact nearer_any s m t n w
theorem rnearer_eq (s m t n : Int) {b : Bool} (hs : 0 ≤ s ∧ s ≤ 65535) (ht : 0 ≤ t ∧ t ≤ 65535) (h : nearer s m t n = b) (w : World) :
    Calls Try.prog 24 #[.agg #[.int .u16 s, .int .u16 m], .agg #[.int .u16 t, .int .u16 n]] w fun e w' => e = .returned (.bool b) ∧ Below w.heap.size w w' := by
  subst h; exact rnearer_any s m t n hs ht w

theorem bcell {W w1 : World} (hb : Below W.heap.size W w1) : (∀ b o, b < W.heap.size → w1.cell? ⟨b, o, none⟩ = W.cell? ⟨b, o, none⟩) ∧ (∀ b o, b < W.heap.size → w1.frozen? ⟨b, o, none⟩ = W.frozen? ⟨b, o, none⟩) :=
  ⟨fun b o h => hb.cell (p := ⟨b, o, none⟩) h, fun b o h => hb.frozen (p := ⟨b, o, none⟩) h⟩

theorem lt_of_below {W w1 : World} {B b : Nat} (hb : Below B W w1) (h : b < W.heap.size) : b < w1.heap.size := Nat.lt_of_lt_of_le h hb.size

theorem bstep {w W w1 : World} (h : Below w.heap.size w W) (hb : Below W.heap.size W w1) : Below w.heap.size w w1 := h.trans (hb.mono h.size)

theorem best_yes (s m t n : Int) (h : nearer t n s m = true) (w : World) :
    Calls Try.prog 43 #[.agg #[.int .u16 s, .int .u16 m], .agg #[.int .u16 t, .int .u16 n]] w fun e w' => e = .returned (.agg #[.int .u16 t, .int .u16 n]) ∧ Below w.heap.size w w' := by
  go_enter Try.func43, Try.ntmps43
  go_wp2_with (go_at_call 38; refine (nearer_any _ _ _ _ _).mono ?_; rintro e w1 ⟨rfl, hb⟩; obtain ⟨hc, hf⟩ := bcell hb; have hz : w.heap.size + 1 + 1 < w1.heap.size := by have := hb.size; simp at this; omega)
  exact bodyPost_ret (v := .agg #[.int .u16 t, .int .u16 n]) (by simp [results, go_sem, hc]) rfl
    ⟨rfl, (((((Below.refl _ _).alloc (Nat.le_refl _) _).alloc (by simp) _).alloc (by simp; omega) _).trans (hb.mono (by simp; omega))).setCell (by simp; omega) _ |>.setCell (by simp; omega) _⟩

theorem best_no (s m t n : Int) (h : nearer t n s m = false) (w : World) :
    Calls Try.prog 43 #[.agg #[.int .u16 s, .int .u16 m], .agg #[.int .u16 t, .int .u16 n]] w fun e w' => e = .returned (.agg #[.int .u16 s, .int .u16 m]) ∧ Below w.heap.size w w' := by
  go_enter Try.func43, Try.ntmps43
  go_wp2_with (go_at_call 38; refine (nearer_any _ _ _ _ _).mono ?_; rintro e w1 ⟨rfl, hb⟩; obtain ⟨hc, hf⟩ := bcell hb; have hz : w.heap.size + 1 + 1 < w1.heap.size := by have := hb.size; simp at this; omega)
  exact bodyPost_ret (v := .agg #[.int .u16 s, .int .u16 m]) (by simp [results, go_sem, hc]) rfl
    ⟨rfl, (((((Below.refl _ _).alloc (Nat.le_refl _) _).alloc (by simp) _).alloc (by simp; omega) _).trans (hb.mono (by simp; omega))).setCell (by simp; omega) _ |>.setCell (by simp; omega) _⟩
def best (s m t n : Int) : Value := if nearer t n s m then .agg #[.int .u16 t, .int .u16 n] else .agg #[.int .u16 s, .int .u16 m]
theorem best_any (s m t n : Int) (w : World) :
    Calls Try.prog 43 #[.agg #[.int .u16 s, .int .u16 m], .agg #[.int .u16 t, .int .u16 n]] w fun e w' => e = .returned (best s m t n) ∧ Below w.heap.size w w' := by
  unfold best
  cases h : nearer t n s m
  · exact best_no s m t n h w
  · exact best_yes s m t n h w

end Go.Proofs.Ytkbhmdoichiinaa.Ser
