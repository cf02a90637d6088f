/- Latest's contract, at serials that lie close together. -/
import Derived.Test.YtgcehnbhgfopnaaSer
import Derived.Lib.Hide
namespace Go.Proofs.Ytgcehnbhgfopnaa.Ser
open Go.ChangeShapes Go.WideShapes Go.ChangeAt Go.RowKit

/-- The greatest of the first n. -/
def mxd (d : Nat → Int) : Nat → Int
  | 0 => 0
  | n + 1 => max (mxd d n) (d n)
theorem mxd_bd (d : Nat → Int) (n : Nat) (h : ∀ j, j < n → 0 ≤ d j ∧ d j < 32000) : 0 ≤ mxd d n ∧ mxd d n < 32000 := by
  induction n with
  | zero => simp [mxd]
  | succ n ih =>
    have h1 := ih fun j hj => h j (by omega)
    have h2 := h n (by omega)
    simp only [mxd]; omega
theorem newer_close (f d m : Int) (hd : 0 ≤ d ∧ d < 32000) (hm : 0 ≤ m ∧ m < 32000) : newer (IntKind.u16.wrap (f + d)) (IntKind.u16.wrap (f + m)) = decide (m < d) := by
  unfold newer; simp only [IntKind.wrap_u16]; rw [decide_eq_decide]; omega

theorem latest_any (f : Int) (d : Nat → Int) (n cap g : Nat) (hn : 1 ≤ n) (hc : n ≤ cap) (hcap : cap ≤ maxLen) (hd : ∀ j, j < n → 0 ≤ d j ∧ d j < 32000) (w : World)
    (hcell : ∀ j, j < n → w.cell? ⟨g, j, none⟩ = some (.int .u16 (IntKind.u16.wrap (f + d j)))) :
    Calls Try.prog 13 #[.slice (some ⟨g, 0, none⟩) n cap] w fun e w' => e = .returned (.int .u16 (IntKind.u16.wrap (f + mxd d n))) ∧ w = w' := by
  obtain ⟨m, rfl⟩ : ∃ m, n = m + 1 := ⟨n - 1, by omega⟩
  have c0 := hcell 0 (by omega)
  have hd0 := hd 0 (by omega)
  have hne : (((m + 1 : Nat) : Int) == 0) = false := by simp; omega
  have hne2 : ((m : Int) + 1 == 0) = false := by simp; omega
  have m1 : mxd d 1 = d 0 := by simp only [mxd]; omega
  have M1 := Lib.hid m1
  have HC := Lib.hid hcell
  have HD := Lib.hid hd
  unfold maxLen at hcap
  clear hcell hd m1
  by_cases h1 : cap = 1
  · obtain rfl : m = 0 := by omega
    subst h1
    go_enter Try.func13, Try.ntmps13
    go_wp2
    refine wp_loop_rounds 1 ?_
    rw [rounds_succ]
    go_wp2
    go_ret
    exact ⟨ret_int (by rw [M1.out]), rfl⟩
  · go_enter Try.func13, Try.ntmps13
    go_wp2
    go_loop [3, 15] (fun s i => ∃ k : Nat, k ≤ m ∧ i = .int .i64 k ∧ s = .int .u16 (IntKind.u16.wrap (f + mxd d (k + 1)))) (fun _ i => m - (intOf i).toNat)
    case atStart => exact ⟨0, by omega, rfl, by rw [show (0 : Nat) + 1 = 1 from rfl, M1.out]⟩
    case round =>
      obtain ⟨k, hk, rfl, rfl⟩ := hrel
      by_cases hlt : k < m
      · have ck := HC.out (k + 1) (by omega)
        have e : (k + 1 : Nat) = 1 + k := by omega
        rw [show (⟨g, k + 1, none⟩ : Addr) = ⟨g, 1 + k, none⟩ by rw [e]] at ck
        have dk := HD.out (k + 1) (by omega)
        have mk := mxd_bd d (k + 1) fun j hj => HD.out j (by omega)
        have hnc := newer_close f (d (k + 1)) (mxd d (k + 1)) dk mk
        have hs : mxd d (k + 1 + 1) = max (mxd d (k + 1)) (d (k + 1)) := rfl
        have HS := Lib.hid hs
        clear hs e
        generalize mxd d (k + 1) = M at *
        generalize d (k + 1) = D at *
        by_cases hmd : M < D
        · have hnc' : newer (IntKind.u16.wrap (f + D)) (IntKind.u16.wrap (f + M)) = true := by rw [hnc]; simpa using hmd
          clear hnc
          go_wp2_with (go_at_call 10; refine (newer_any _ _ _).mono ?_; rintro e w' ⟨rfl, rfl⟩)
          go_round
          case rel => exact ⟨k + 1, by omega, by go_num, by rw [HS.out, show max M D = D by omega]⟩
          case measure => simp [intOf]; omega
        · have hnc' : newer (IntKind.u16.wrap (f + D)) (IntKind.u16.wrap (f + M)) = false := by rw [hnc]; simpa using hmd
          clear hnc
          go_wp2_with (go_at_call 10; refine (newer_any _ _ _).mono ?_; rintro e w' ⟨rfl, rfl⟩)
          go_round
          case rel => exact ⟨k + 1, by omega, by go_num, by rw [HS.out, show max M D = M by omega]⟩
          case measure => simp [intOf]; omega
      · have hkm : k = m := by omega
        subst hkm
        go_wp2
        go_ret
        exact ⟨rfl, rfl⟩

theorem latest_nil (w : World) : Calls Try.prog 13 #[.slice none 0 0] w fun e w' => e = .returned (.int .u16 0) ∧ w = w' := by
  go_enter Try.func13, Try.ntmps13
  go_wp2
  go_ret
  exact ⟨rfl, rfl⟩
end Go.Proofs.Ytgcehnbhgfopnaa.Ser
