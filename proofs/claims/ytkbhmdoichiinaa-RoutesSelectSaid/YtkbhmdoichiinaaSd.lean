/- Contracts of package source's functions: what is asked, and told. -/
import Derived.Test.YtkbhmdoichiinaaSc
namespace Go.Proofs.Ytkbhmdoichiinaa.Src
open Pre Ser
open Go.ChangeShapes Go.WideShapes Go.ChangeAt Go.RowKit
set_option maxRecDepth 8000
variable {lo : Nat}
theorem look_form (f : Mk) (a n : Nat) : ∃ x : Nat × Nat, lookV (f a n) = .agg #[.int .u16 (x.1 : Int), .int .u16 (x.2 : Int)] ∧ ∀ y, f a n = some y → x = y := by
  cases h : f a n with
  | none => exact ⟨(0, 0), rfl, fun y e => by cases e⟩
  | some m => exact ⟨m, rfl, fun y e => by injection e⟩
theorem feas_any (u : World) (q : Nat) (f : Mk) (c : Nat) (h : SrcAt lo u q f c) (a n : Nat) (ha : a < 4294967296) (hn : n < 256) (m : Nat × Nat) :
    Calls Try.prog 20 #[.pointer (some ⟨q, 0, none⟩), pv a n, mv m] u fun e w' => e = .returned (.bool (f.feas a n m)) ∧ Below u.heap.size u w' := by
  have HM := Lib.hid (fun W (hW : Below u.heap.size u W) => Mark_any W q f c (h.below hW) a n ha hn)
  obtain ⟨x, hx, hx2⟩ := look_form f a n
  rw [hx] at HM
  clear hx h
  have HX2 := Lib.hid hx2
  clear hx2
  have B1 := Lib.hid (((Below.refl u.heap.size u).alloc (Nat.le_refl _) (.cells #[.int .u32 (a : Int), .int .u8 (n : Int)] 39)).alloc (by simp) (.cells #[.int .u16 (m.1 : Int), .int .u16 (m.2 : Int)] 41))
  have r1 := heap_new1 u (.cells #[.int .u32 (a : Int), .int .u8 (n : Int)] 39) (.cells #[.int .u16 (m.1 : Int), .int .u16 (m.2 : Int)] 41)
  have HR1 := Lib.hid r1
  clear r1
  unfold pv mv Mk.feas at *
  obtain ⟨m1, m2⟩ := m
  simp only at *
  by_cases h5 : m2 = 65535
  · have e5 : ((m2 : Int) == 65535) = true := by simp; omega
    have e6 : decide (m2 = 65535) = true := decide_eq_true h5
    rw [e6, Bool.true_or]
    clear h5 e6
    cases hf : f a n with
    | none =>
      rw [hf] at HM
      clear HX2 hf
      go_enter Try.func20, Try.ntmps20
      go_wp2_with (first
        | (go_at_call 23; (with_reducible refine (HM.out _ B1.out).mono ?_); rintro e w1 ⟨rfl, B2⟩; have HB := Lib.hid (B1.out.trans (B2.mono B1.out.size)); have HR := Lib.hid ((B2.block _ (Array.getElem?_eq_some_iff.1 HR1.out).1).trans HR1.out); obtain ⟨p0, p1, pf⟩ := row2 HR.out; have hsz : u.heap.size + 1 < w1.heap.size := (Array.getElem?_eq_some_iff.1 HR.out).1; clear B2)
        | (go_at_call 38; (with_reducible refine (nearer_any _ _ _ _ _).mono ?_); rintro e w2 ⟨rfl, B3⟩; have HN := Lib.hid ((HB.out.alloc HB.out.size _).trans (B3.mono (by have := HB.out.size; simp; omega))); clear B3))
      go_ret
      exact ⟨rfl, HB.out.alloc HB.out.size _⟩
    | some y =>
      obtain rfl := HX2.out y hf
      rw [hf] at HM
      clear HX2 hf
      go_enter Try.func20, Try.ntmps20
      go_wp2_with (first
        | (go_at_call 23; (with_reducible refine (HM.out _ B1.out).mono ?_); rintro e w1 ⟨rfl, B2⟩; have HB := Lib.hid (B1.out.trans (B2.mono B1.out.size)); have HR := Lib.hid ((B2.block _ (Array.getElem?_eq_some_iff.1 HR1.out).1).trans HR1.out); obtain ⟨p0, p1, pf⟩ := row2 HR.out; have hsz : u.heap.size + 1 < w1.heap.size := (Array.getElem?_eq_some_iff.1 HR.out).1; clear B2)
        | (go_at_call 38; (with_reducible refine (nearer_any _ _ _ _ _).mono ?_); rintro e w2 ⟨rfl, B3⟩; have HN := Lib.hid ((HB.out.alloc HB.out.size _).trans (B3.mono (by have := HB.out.size; simp; omega))); clear B3))
      go_ret
      exact ⟨rfl, HB.out.alloc HB.out.size _⟩
  · have e5 : ((m2 : Int) == 65535) = false := by simp; omega
    have e6 : decide (m2 = 65535) = false := decide_eq_false h5
    rw [e6, Bool.false_or]
    clear h5 e6
    cases hf : f a n with
    | none =>
      rw [hf] at HM
      clear HX2 hf
      go_enter Try.func20, Try.ntmps20
      go_wp2_with (first
        | (go_at_call 23; (with_reducible refine (HM.out _ B1.out).mono ?_); rintro e w1 ⟨rfl, B2⟩; have HB := Lib.hid (B1.out.trans (B2.mono B1.out.size)); have HR := Lib.hid ((B2.block _ (Array.getElem?_eq_some_iff.1 HR1.out).1).trans HR1.out); obtain ⟨p0, p1, pf⟩ := row2 HR.out; have hsz : u.heap.size + 1 < w1.heap.size := (Array.getElem?_eq_some_iff.1 HR.out).1; clear B2)
        | (go_at_call 38; (with_reducible refine (nearer_any _ _ _ _ _).mono ?_); rintro e w2 ⟨rfl, B3⟩; have HN := Lib.hid ((HB.out.alloc HB.out.size _).trans (B3.mono (by have := HB.out.size; simp; omega))); clear B3))
      go_ret
      exact ⟨rfl, HB.out.alloc HB.out.size _⟩
    | some y =>
      obtain rfl := HX2.out y hf
      rw [hf] at HM
      clear HX2 hf
      go_enter Try.func20, Try.ntmps20
      go_wp2_with (first
        | (go_at_call 23; (with_reducible refine (HM.out _ B1.out).mono ?_); rintro e w1 ⟨rfl, B2⟩; have HB := Lib.hid (B1.out.trans (B2.mono B1.out.size)); have HR := Lib.hid ((B2.block _ (Array.getElem?_eq_some_iff.1 HR1.out).1).trans HR1.out); obtain ⟨p0, p1, pf⟩ := row2 HR.out; have hsz : u.heap.size + 1 < w1.heap.size := (Array.getElem?_eq_some_iff.1 HR.out).1; clear B2)
        | (go_at_call 38; (with_reducible refine (nearer_any _ _ _ _ _).mono ?_); rintro e w2 ⟨rfl, B3⟩; have HN := Lib.hid ((HB.out.alloc HB.out.size _).trans (B3.mono (by have := HB.out.size; simp; omega))); clear B3))
      go_ret
      exact ⟨rfl, HN.out⟩
end Go.Proofs.Ytkbhmdoichiinaa.Src
