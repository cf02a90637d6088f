/- prefix.Compare in table's seat. -/
import Derived.Test.YtkbhmdoichiinaaPg
import Derived.Deep.RegionHeld3
namespace Go.Proofs.Ytkbhmdoichiinaa.Pre
open Go.ChangeShapes Go.WideShapes Go.ChangeAt Go.RowKit
set_option maxRecDepth 4000

/-- Compare's answer. -/
def cmpV (x y : Nat) : Int := if x < y then -1 else if y < x then 1 else 0
theorem cmp32_any (x y : Nat) (w : World) : Calls Try.prog 62 #[.int .u32 x, .int .u32 y] w fun e w' => e = .returned (.int .i64 (cmpV x y)) ∧ w = w' := by
  rcases Nat.lt_trichotomy x y with h | h | h
  · go_enter Try.func62, Try.ntmps62
    go_wp2
    go_ret
    exact ⟨ret_int (by simp [cmpV, h]), rfl⟩
  · subst h
    go_enter Try.func62, Try.ntmps62
    go_wp2
    go_ret
    exact ⟨ret_int (by simp [cmpV]), rfl⟩
  · have h2 : ¬ x < y := by omega
    go_enter Try.func62, Try.ntmps62
    go_wp2
    go_ret
    exact ⟨ret_int (by simp [cmpV, h, h2]), rfl⟩
theorem cmp8_any (x y : Nat) (w : World) : Calls Try.prog 63 #[.int .u8 x, .int .u8 y] w fun e w' => e = .returned (.int .i64 (cmpV x y)) ∧ w = w' := by
  rcases Nat.lt_trichotomy x y with h | h | h
  · go_enter Try.func63, Try.ntmps63
    go_wp2
    go_ret
    exact ⟨ret_int (by simp [cmpV, h]), rfl⟩
  · subst h
    go_enter Try.func63, Try.ntmps63
    go_wp2
    go_ret
    exact ⟨ret_int (by simp [cmpV]), rfl⟩
  · have h2 : ¬ x < y := by omega
    go_enter Try.func63, Try.ntmps63
    go_wp2
    go_ret
    exact ⟨ret_int (by simp [cmpV, h, h2]), rfl⟩
def orV (x y : Int) : Int := if x = 0 then y else x
theorem or_any (x y : Int) (b : Nat) (w : World) (h0 : w.cell? ⟨b, 0, none⟩ = some (.int .i64 x)) (h1 : w.cell? ⟨b, 1, none⟩ = some (.int .i64 y)) :
    Calls Try.prog 48 #[.slice (some ⟨b, 0, none⟩) 2 2] w fun e w' => e = .returned (.int .i64 (orV x y)) ∧ w = w' := by
  by_cases hx : x = 0
  · subst hx
    by_cases hy : y = 0
    · subst hy
      go_enter Try.func48, Try.ntmps48
      go_wp2
      refine wp_loop_rounds 3 ?_
      repeat (rw [rounds_succ]; go_wp2)
      go_ret
      exact ⟨ret_int (by simp [orV]), rfl⟩
    · have hb : (y != 0) = true := by simpa using hy
      go_enter Try.func48, Try.ntmps48
      go_wp2
      refine wp_loop_rounds 3 ?_
      repeat (rw [rounds_succ]; go_wp2)
      go_ret
      exact ⟨ret_int (by simp [orV]), rfl⟩
  · have hb : (x != 0) = true := by simpa using hx
    go_enter Try.func48, Try.ntmps48
    go_wp2
    refine wp_loop_rounds 3 ?_
    repeat (rw [rounds_succ]; go_wp2)
    go_ret
    exact ⟨ret_int (by simp [orV, hx]), rfl⟩

/-- Compare's answer of two prefixes: by Addr, then Len. -/
def cmpP (p m q n : Nat) : Int := orV (cmpV p q) (cmpV m n)
theorem compare_any (p m q n : Nat) (w : World) :
    Calls Try.prog 49 #[.agg #[.int .u32 p, .int .u8 m], .agg #[.int .u32 q, .int .u8 n]] w fun e w' => e = .returned (.int .i64 (cmpP p m q n)) ∧ Below w.heap.size w w' := by
  go_enter Try.func49, Try.ntmps49
  go_wp2
  go_region_held3 (fun x => x.cell? ⟨w.heap.size, 0, none⟩ = some (.int .u32 p) ∧ x.cell? ⟨w.heap.size, 1, none⟩ = some (.int .u8 m) ∧ x.cell? ⟨w.heap.size + 1, 0, none⟩ = some (.int .u32 q) ∧ x.cell? ⟨w.heap.size + 1, 1, none⟩ = some (.int .u8 n) ∧ (w.heap.size + 1 < x.heap.size ∧ Below w.heap.size w x))
    ((repeat' apply And.intro) <;> first | exact (((Below.refl _ _).alloc (Nat.le_refl _) _).alloc (by simp) _).drew | exact ((((Below.refl _ _).alloc (Nat.le_refl _) _).alloc (by simp) _).alloc (by simp; omega) _).drew | assumption | exact Below.alloc (by assumption) (by simp; omega) _ | go_keep | (simp; omega))
    (first
    | (go_at_call 62; refine (cmp32_any p q _).mono ?_; rintro e w' ⟨rfl, rfl⟩)
    | (go_at_call 63; refine (cmp8_any m n _).mono ?_; rintro e w' ⟨rfl, rfl⟩)
    | (go_at_call 48; refine (or_any (cmpV p q) (cmpV m n) _ _ (by simp [go_sem]) (by simp [go_sem])).mono ?_; rintro e w' ⟨rfl, rfl⟩))
  all_goals (go_wp2; go_ret; exact ⟨rfl, ((((Below.refl _ _).alloc (Nat.le_refl _) _).alloc (by simp) _).alloc (by simp; omega) _).drew⟩)

end Go.Proofs.Ytkbhmdoichiinaa.Pre
