/- The ether's small functions: isNode, Len, place, Hears, Join; bytes.Clone; slices.Delete. -/
import Derived.Test.YteolfclkcgfelaaEa
namespace Go.Proofs.Yteolfclkcgfelaa.Eth
open Go.ChangeShapes Go.WideShapes Go.ChangeAt Go.RowKit
open Coin (Rd Own b8 Row)
set_option maxRecDepth 8000
set_option linter.unusedVariables false
variable {lo : Nat} {w : World} {q : Nat} {H : Nat → Nat → Bool} {l : List Pk} {v : Value}

def isN (n : Int) : Bool := decide (0 ≤ n ∧ n < 16)
theorem node_any (n : Int) (w : World) : Calls Try.prog 16 #[.int .i64 n] w fun e w' => e = .returned (.bool (isN n)) ∧ w = w' := by
  unfold isN
  by_cases h0 : 0 ≤ n
  · by_cases h1 : n < 16
    · rw [decide_eq_true (show 0 ≤ n ∧ n < 16 from ⟨h0, h1⟩)]
      go_enter Try.func16, Try.ntmps16
      go_wp2
      go_ret
      exact ⟨rfl, rfl⟩
    · rw [decide_eq_false (show ¬ (0 ≤ n ∧ n < 16) from fun h => h1 h.2)]
      go_enter Try.func16, Try.ntmps16
      go_wp2
      go_ret
      exact ⟨rfl, rfl⟩
  · rw [decide_eq_false (show ¬ (0 ≤ n ∧ n < 16) from fun h => h0 h.1)]
    go_enter Try.func16, Try.ntmps16
    go_wp2
    go_ret
    exact ⟨rfl, rfl⟩
theorem len_nil (w : World) : Calls Try.prog 14 #[.pointer none] w fun e w' => e = .returned (.int .i64 0) ∧ w = w' := by
  go_enter Try.func14, Try.ntmps14
  go_wp2
  go_ret
  exact ⟨rfl, rfl⟩
theorem len_any (h : EAt lo w q H l v) : Calls Try.prog 14 #[.pointer (some ⟨q, 0, none⟩)] w fun e w' => e = .returned (.int .i64 (l.length : Nat)) ∧ w = w' := by
  obtain ⟨A, c, hv, _⟩ := h.sl.len
  have p := h.under
  rw [hv] at p
  clear h hv
  go_enter Try.func14, Try.ntmps14
  go_wp2
  go_ret
  exact ⟨rfl, rfl⟩
/-- Where the i-th packet of n stands. -/
def plc (i : Int) (n : Nat) : Nat := (i % 18446744073709551616).toNat % n
theorem plc_lt (i : Int) {n : Nat} (h : 0 < n) : plc i n < n := Nat.mod_lt _ h
theorem plc_go (i : Int) (n : Nat) (hm : n ≤ 100000) : IntKind.u64.wrap (n : Int) = (n : Int) ∧ Int.tmod (IntKind.u64.wrap i) (n : Int) = (plc i n : Int) ∧ (0 < n → IntKind.i64.wrap (plc i n : Int) = (plc i n : Int)) := by
  refine ⟨by rw [IntKind.wrap_u64]; omega, ?_, fun h => ?_⟩
  · rw [IntKind.wrap_u64, Int.tmod_eq_emod_of_nonneg (by omega)]
    unfold plc
    rw [Int.natCast_emod, Int.toNat_of_nonneg (by omega)]
  · have := plc_lt i h
    rw [IntKind.wrap_i64]; omega
theorem place_any (h : EAt lo w q H l v) (hn : 0 < l.length) (hm : l.length ≤ 100000) (i : Int) : Calls Try.prog 19 #[.pointer (some ⟨q, 0, none⟩), .int .i64 i] w fun e w' => e = .returned (.int .i64 (plc i l.length : Nat)) ∧ w = w' := by
  obtain ⟨A, c, hv, _⟩ := h.sl.len
  have p := h.under
  rw [hv] at p
  obtain ⟨e1, e2, e3⟩ := plc_go i l.length hm
  have e3 : plc i l.length ≤ 100000 := by have := plc_lt i hn; omega
  generalize plc i l.length = k at *
  generalize l.length = n at *
  have e4 : ¬ (n : Int) = 0 := by omega
  clear h hv hm hn
  go_enter Try.func19, Try.ntmps19
  go_wp2
  go_ret
  exact ⟨rfl, rfl⟩
theorem eq37 (w : World) (a : Option Addr) (n c : Nat) : (binOp .eql 37 (.slice a n c) (.slice none 0 0)).run Try.prog w = .ok (.bool a.isNone) w := by
  simp only [binOp]
  simp [run_equal_slice_nil w 37 5 a n c Try.underlying37]
theorem own_le {w : World} {B B' : Nat} {e : TypeId} {k : Nat} {v : Value} {n : Nat} {xs : List Value} (h : w.ownsRow B e k v n xs) (hb : B' ≤ B) : w.ownsRow B' e k v n xs := by
  obtain ⟨h1, h2⟩ := h
  refine ⟨h1, ?_⟩
  rcases h2 with h2 | ⟨g, cap, cur, rfl, a, b⟩
  · exact .inl h2
  · exact .inr ⟨g, cap, cur, rfl, Nat.le_trans hb a, b⟩
/-- bytes.Clone. -/
theorem clone_any (w : World) (B : Nat) (A : Option Addr) (c Bx : Nat) (d : List UInt8) (hr : Rd w Bx A d) (hA : A = none → c = 0) (hn : A = none → d = []) (hl : d.length ≤ 100000) (hB : B ≤ w.heap.size) :
    Calls Try.prog 17 #[.slice A d.length c] w fun e w' => ∃ v, e = .returned v ∧ Own w' B v d ∧ Below w.heap.size w w' := by
  rcases A with _ | ad
  · obtain rfl := hn rfl
    obtain rfl := hA rfl
    rw [List.length_nil]
    have k1 := fun w => eq37 w none 0 0
    go_enter Try.func17, Try.ntmps17
    go_wp2
    go_ret
    exact ⟨_, rfl, Own.nil w B, Below.refl _ _⟩
  · have BA := (Below.refl w.heap.size w).alloc (Nat.le_refl _) (.cells #[] 5)
    have OA : Own (w.alloc (.cells #[] 5)) w.heap.size (.slice (some ⟨w.heap.size, 0, none⟩) 0 0) [] := Own.lit w w.heap.size [] (Nat.le_refl _) (by simp)
    have RA : Rd (w.alloc (.cells #[] 5)) Bx (some ad) d := fun h0 => by
      obtain ⟨ad', e, hb, hc⟩ := hr h0
      refine ⟨ad', e, hb, fun j hj => ?_⟩
      have := hc j hj
      have hlt : (ad'.add j).block < w.heap.size := by
        rcases Nat.lt_or_ge (ad'.add j).block w.heap.size with h' | h'
        · exact h'
        · simp [World.cell?, Array.getElem?_eq_none h'] at this
      rw [BA.cell hlt]; exact this
    have H1 := Lib.hid (And.intro OA (And.intro RA BA))
    have hn5 := Lib.hid hl
    generalize hn : d.length = n at *
    have HN := Lib.hid hn
    clear OA RA BA hr hA hn hl
    have k1 := fun w => eq37 w (some ad) n c
    go_enter Try.func17, Try.ntmps17
    go_wp2_with (first
      | ((refine Coin.app_any rfl _ _ rfl w.heap.size _ [] d (some ad) n c Bx rfl rfl H1.out.1 H1.out.2.1 HN.out.symm (fun h => by cases h) (by have := hn5.out; have := HN.out; simp; omega) (by show w.heap.size ≤ (w.heap.push _).size; rw [Array.size_push]; omega) w.heap.size w H1.out.2.2 (Nat.le_refl _) ?_); intro v' w' h1 h2 h3; have H2 := Lib.hid (And.intro h1 h2); clear h1 h2 h3))
    go_ret
    exact ⟨_, rfl, own_le H2.out.1 hB, H2.out.2⟩
end Go.Proofs.Yteolfclkcgfelaa.Eth
