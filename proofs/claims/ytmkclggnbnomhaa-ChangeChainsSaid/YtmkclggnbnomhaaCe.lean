/- Contracts: how many bytes two have alike; numbers, one behind the other. -/
import Derived.Test.YtmkclggnbnomhaaCb
namespace Go.Proofs.Ytmkclggnbnomhaa.Chg
open Coin
open Go.ChangeShapes Go.WideShapes Go.ChangeAt Go.RowKit

theorem bN {B : Nat} {a w : World} {n : Nat} (h : Below B a w) : Below B a (w.drewN n) := ⟨h.os, h.tape, h.output, h.size, h.block⟩
set_option maxRecDepth 4000 in
theorem alike_any (A B : Option Addr) (c d : Nat) (l r : List UInt8) (w : World) (hl : Rd w w.heap.size A l) (hr : Rd w w.heap.size B r) (h1 : l.length ≤ 4) (h2 : r.length ≤ 4) (nl nr : Nat) (el : nl = l.length) (er : nr = r.length) :
    Calls Try.prog 16 #[.slice A nl c, .slice B nr d] w fun e w' => e = .returned (.int .i64 (same l r)) ∧ Below w.heap.size w w' := by
  have hs := same_step l r
  have hsl := same_le l r
  rw [← el, ← er] at hsl
  have HE := Lib.hid (And.intro el er)
  have HS := Lib.hid hs
  have hnl : nl ≤ 4 := by omega
  have hnr : nr ≤ 4 := by omega
  clear el er h1 h2 hs
  generalize same l r = S at *
  go_enter Try.func16, Try.ntmps16
  go_wp2
  go_loopw [5] (fun i wr => ∃ n : Nat, n ≤ S ∧ i = .int .i64 n ∧ Below w.heap.size w wr) (fun i _ => S - (intOf i).toNat)
  case atStart => exact ⟨0, by omega, rfl, Below.refl _ _⟩
  case round =>
    obtain ⟨n, hn, rfl, B0⟩ := hrel
    have st := HS.out n hn
    rw [← HE.out.1, ← HE.out.2] at st
    by_cases hin : n < nl ∧ n < nr
    · obtain ⟨adA, rfl, _, hA⟩ := hl.below B0 (Nat.le_refl _) (by rw [← HE.out.1]; omega)
      obtain ⟨adB, rfl, _, hB⟩ := hr.below B0 (Nat.le_refl _) (by rw [← HE.out.2]; omega)
      have cA := hA n (by rw [← HE.out.1]; exact hin.1)
      have cB := hB n (by rw [← HE.out.2]; exact hin.2)
      have ex : l.getD n 0 = l[n]'(by rw [← HE.out.1]; exact hin.1) := by rw [List.getD_eq_getElem?_getD, List.getElem?_eq_getElem]; rfl
      have ey : r.getD n 0 = r[n]'(by rw [← HE.out.2]; exact hin.2) := by rw [List.getD_eq_getElem?_getD, List.getElem?_eq_getElem]; rfl
      rw [← ex] at cA
      rw [← ey] at cB
      unfold b8 at cA cB
      generalize l.getD n 0 = x at *
      generalize r.getD n 0 = y at *
      have hmin : decide ((n : Int) < min (nl : Int) nr) = true := by rw [decide_eq_true_eq]; omega
      clear hA hB ex ey hl hr
      by_cases e : x = y
      · have hlt : n < S := st.2 ⟨hin.1, hin.2, e⟩
        have eb : ((x.toNat : Int) == (y.toNat : Int)) = true := by rw [e]; simp
        generalize (x.toNat : Int) = X at *
        generalize (y.toNat : Int) = Y at *
        clear st e
        go_wp2
        go_quiet (fail)
        go_wp2
        go_roundw
        case rel => exact ⟨n + 1, by omega, by go_num, bN B0⟩
        case measure => simp [intOf]; omega
      · have hno : ¬ n < S := fun h => e (st.1 h).2.2
        have eb : ((x.toNat : Int) == (y.toNat : Int)) = false := by
          rw [beq_eq_false_iff_ne]; intro h; exact e (UInt8.toNat.inj (by omega))
        obtain rfl : n = S := by omega
        generalize (x.toNat : Int) = X at *
        generalize (y.toNat : Int) = Y at *
        clear st e hno hn
        go_wp2
        go_quiet (fail)
        go_wp2
        go_ret
        exact ⟨rfl, bN B0⟩
    · have hno : ¬ n < S := fun h => hin ⟨(st.1 h).1, (st.1 h).2.1⟩
      obtain rfl : n = S := by omega
      have hmin : decide ((n : Int) < min (nl : Int) nr) = false := by rw [decide_eq_false_iff_not]; omega
      clear st hin hno hn
      go_wp2
      go_quiet (fail)
      go_wp2
      go_ret
      exact ⟨rfl, bN B0⟩
def coins : List Nat → List UInt8
  | [] => []
  | n :: r => coin n ++ coins r
theorem coins_len (ns : List Nat) : (coins ns).length ≤ 9 * ns.length := by
  induction ns with
  | nil => simp [coins]
  | cons n r ih =>
    have := (sz_le n).2
    simp only [coins, List.length_append, length_coin, List.length_cons]; omega
theorem coins_app (a b : List Nat) : coins (a ++ b) = coins a ++ coins b := by
  induction a with
  | nil => rfl
  | cons n r ih => simp [coins, ih]
/-- A block of numbers. -/
def Nums (w : World) (g : Nat) (ns : List Nat) : Prop := w.heap[g]? = some (.cells (ns.map fun n : Nat => Value.int .u64 (n : Int)).toArray 26 (0, 0))
set_option maxRecDepth 4000 in
theorem coins_any (ns : List Nat) (g : Nat) (w : World) (hg : g < w.heap.size) (h : Nums w g ns) (hs : ∀ n ∈ ns, n < 18446744073709551616) (m : Nat) (hm : m = ns.length) (h3 : m ≤ 3) :
    Calls Try.prog 27 #[.slice (some ⟨g, 0, none⟩) m m] w (CoinOwn w (coins ns)) := by
  have HM := Lib.hid hm
  have HN := Lib.hid h
  have HSm := Lib.hid hs
  clear hm h hs
  go_enter Try.func27, Try.ntmps27
  go_wp2
  go_loopw [3, 4] (fun v i wr => ∃ k : Nat, k ≤ m ∧ i = .int .i64 k ∧ Hid (Own wr w.heap.size v (coins (ns.take k))) ∧ Below w.heap.size w wr) (fun _ i _ => m - (intOf i).toNat)
  case atStart => exact ⟨0, by omega, rfl, Own.nil _ _, Below.refl _ _⟩
  case round =>
    obtain ⟨k, hk, rfl, HO, B⟩ := hrel
    by_cases hlt : k < m
    · have hkn : k < ns.length := by rw [← HM.out]; exact hlt
      have hx : ns[k] < 18446744073709551616 := HSm.out _ (List.getElem_mem hkn)
      have hc : wr.cell? ⟨g, k, none⟩ = some (.int .u64 (ns[k] : Nat)) := by
        have : wr.heap[g]? = some (.cells (ns.map fun n : Nat => Value.int .u64 (n : Int)).toArray 26 (0, 0)) := (B.block g hg).trans HN.out
        rw [cell_of_row wr g k _ 26 (0, 0) this]
        simp [hkn]
      have hc' : wr.cell? ((⟨g, 0, none⟩ : Addr).add k) = some (.int .u64 (ns[k] : Nat)) := by rw [zero_add']; exact hc
      have hcoins : coins (ns.take k) ++ coin ns[k] = coins (ns.take (k + 1)) := by
        rw [List.take_succ_eq_append_getElem hkn, coins_app]
        simp [coins]
      have hl1 : (coins (ns.take k)).length ≤ 27 := Nat.le_trans (coins_len _) (by rw [List.length_take]; omega)
      have hl2 : (coin ns[k]).length ≤ 9 := by rw [length_coin]; exact (sz_le _).2
      have HC := Lib.hid hcoins
      clear hcoins
      have c40 := rcoin_own ns[k] hx wr
      generalize coins (ns.take k) = X at *
      generalize coin ns[k] = Y at *
      generalize ns[k] = x at *
      have hlen : X.length + Y.length ≤ 1000000 := by omega
      clear hl1 hl2 hc' hx HN HSm HM
      go_wp2_with (first
        | (go_at_call 40; refine c40.mono ?_; rintro e w1 ⟨v1, rfl, O1, B1⟩; clear c40; obtain ⟨A1, c1, hv1, r1, hc1, hn1⟩ := O1.form; subst hv1; have O2 := HO.out.kept B1; have B2 := bst B B1; clear O1)
        | (at_builtin; with_reducible refine app_any rfl (.tmp 11) (.tmp 16) rfl w.heap.size u3 X Y A1 Y.length c1 _ rfl rfl O2 r1 rfl hn1 hlen B2.size w.heap.size w B2 (Nat.le_refl _) ?_))
      intro v' w2 O3 B3 _
      rw [HC.out] at O3
      have HO3 := Lib.hid O3
      clear O3 O2 r1 hc1 hn1 B2 B1 HC hlen HO B
      go_wp2
      go_roundw
      case rel => exact ⟨k + 1, by omega, by go_num, HO3, B3⟩
      case measure => simp [intOf]; omega
    · obtain rfl : k = m := by omega
      go_wp2
      go_ret
      have := HO.out
      rw [List.take_of_length_le (by rw [← HM.out]; exact Nat.le_refl _)] at this
      exact ⟨_, rfl, this, B⟩
end Go.Proofs.Ytmkclggnbnomhaa.Chg
