/- The document's own shelf: an empty one; the law's names. -/
import Derived.Test.YtkalgonkaoiapaaRfx
namespace Go.Proofs.Ytkalgonkaoiapaa.Shf
open Go.ChangeShapes Go.WideShapes Go.ChangeAt Go.RowKit

def X.new (room : Int) : X := ⟨[], [], [[]], room, -1, false, 0⟩
set_option maxRecDepth 4000 in
theorem xnew_any (w : World) (T : Nat → Tag) (room : Int) (hT : ∀ b, T b ≠ .none → b < w.heap.size) :
    Calls Try.prog 15 #[.int .i64 room] w fun e w' => ∃ v', e = .returned v' ∧ RXE w' T v' (X.new room) ∧ Below w.heap.size w w' := by
  have HT := Lib.hid (fun b (hb : w.heap.size ≤ b) => show T b = .none by
    cases e : T b with
    | none => rfl
    | _ => exact absurd (hT b (by rw [e]; intro h; cases h)) (by omega))
  have M1 := heap_alloc_new w (.cells #[.slice none 0 0, .slice none 0 0, .slice none 0 0, .int .i64 0, .int .i64 0, .bool false, .int .i64 0] 35)
  have M2 := (heap_alloc_old (w.alloc (.cells #[.slice none 0 0, .slice none 0 0, .slice none 0 0, .int .i64 0, .int .i64 0, .bool false, .int .i64 0] 35)) (.cells #[.slice none 0 0] 32) (Array.getElem?_eq_some_iff.1 M1).1).trans M1
  have B2 := below2 w (.cells #[.slice none 0 0, .slice none 0 0, .slice none 0 0, .int .i64 0, .int .i64 0, .bool false, .int .i64 0] 35) (.cells #[.slice none 0 0] 32)
  have N2 := heap_alloc2_new w (.cells #[.slice none 0 0, .slice none 0 0, .slice none 0 0, .int .i64 0, .int .i64 0, .bool false, .int .i64 0] 35) (.cells #[.slice none 0 0] 32)
  have HH := Lib.hid (And.intro M2 (And.intro B2 N2))
  clear hT M1 M2 B2 N2
  go_enter Try.func15, Try.ntmps15
  go_wp2_with (first
    | (refine wpList_put35 (x0 := .slice none 0 0) (x1 := .slice none 0 0) (x2 := .slice none 0 0) (x3 := .int .i64 0) (x4 := .int .i64 0) (x5 := .bool false) (x6 := .int .i64 0) rfl (.tmp 2) (.tmp 5) rfl w.heap.size rfl HH.out.1 rfl ?_; intro w3 E3 G3; have HE := Lib.hid (And.intro E3 G3); clear E3 G3))
  (try simp only [Exit.inBlock, Exit.then])
  refine bodyPost_ret (res35 rfl _ _ w.heap.size 35 _ (0, 0) rfl HE.out.1 rfl) rfl ?_
  have B3 : Below w.heap.size w w3 := HH.out.2.1.grown HE.out.2 HH.out.2.1.size (fun k h => by cases h; exact Nat.le_refl _)
  have b0 : w3.heap[w.heap.size + 1]? = some (.cells #[.slice none 0 0] 32) := (HE.out.2.block _ (by simp) (fun h => by injection h with h; omega)).trans HH.out.2.2
  refine ⟨_, rfl, ⟨_, _, _, [], [.slice none 0 0], ⟨rfl, RSl.nil _ _ _, .nil, RNm.nil _ _, ?_, .cons (RNm.nil _ _) .nil⟩⟩, B3⟩
  refine ⟨_, 1, rfl, Nat.le_refl _, (fun h => by cases h), rfl, fun _ => ⟨w.heap.size + 1, by simp, (Array.getElem?_eq_some_iff.1 b0).1, HT.out _ (by omega), fun j u hj => ?_⟩⟩
  rw [cell_of_row w3 _ j _ 32 (0, 0) b0]
  simpa using hj

/-- The law's own names. -/
def nameOf (n : Nat) : S := match n % 6 with | 0 => [97] | 1 => [98] | 2 => [99, 46, 49] | 3 => [100] | 4 => [69] | _ => []
theorem nameOf_len (n : Nat) : (nameOf n).length ≤ 3 := by
  unfold nameOf
  split <;> decide
set_option maxRecDepth 4000 in
theorem lname_any (w : World) (n : Nat) (hn : n < 256) :
    Calls Try.prog 36 #[.int .u8 (n : Int)] w fun e w' => e = .returned (.string (str (nameOf n))) ∧ Below w.heap.size w w' := by
  have B1 : Below w.heap.size w (w.alloc (.cells #[.string ⟨#[97]⟩, .string ⟨#[98]⟩, .string ⟨#[99, 46, 49]⟩, .string ⟨#[100]⟩, .string ⟨#[69]⟩, .string ⟨#[]⟩] 9)) := (Below.refl _ w).alloc (Nat.le_refl _) _
  have HB := Lib.hid B1
  clear B1
  have hz : n % 6 = 0 ∨ n % 6 = 1 ∨ n % 6 = 2 ∨ n % 6 = 3 ∨ n % 6 = 4 ∨ n % 6 = 5 := by omega
  rcases hz with h | h | h | h | h | h
  all_goals
    have hs : ∃ s, s = str (nameOf n) := ⟨_, rfl⟩
    unfold nameOf
    rw [h]
    have hi : (n : Int) % 6 = ((n % 6 : Nat) : Int) := by omega
    rw [h] at hi
    clear hs h
    go_enter Try.func36, Try.ntmps36
    go_wp2
    go_ret
    exact ⟨rfl, HB.out⟩
end Go.Proofs.Ytkalgonkaoiapaa.Shf
