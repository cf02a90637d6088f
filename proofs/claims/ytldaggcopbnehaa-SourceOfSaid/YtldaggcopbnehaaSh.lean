/- Of: the marks of rows. -/
import Derived.Test.YtldaggcopbnehaaSg
import Derived.Test.YtldaggcopbnehaaKv
namespace Go.Proofs.Ytldaggcopbnehaa.Src
open Pre Ser
open Tab (R RSl RAt Rising key key_inj)
open Go.ChangeShapes Go.WideShapes Go.ChangeAt Go.RowKit Go.Sort
set_option maxRecDepth 8000
def FO (rs : List R) : Mk := rs.foldl (fun f r => f.put r.addr r.len (r.ms, r.mm)) (fun _ _ => none)
theorem FO_snoc (rs : List R) (r : R) : FO (rs ++ [r]) = (FO rs).put r.addr r.len (r.ms, r.mm) := by simp [FO]
theorem FO_none (a n : Nat) (hn : n < 64) : ∀ j (rs : List R), (∀ r ∈ rs, r.len < 64) → (∀ r ∈ rs, r.key ≠ key a n) → FO (rs.take j) a n = none := by
  intro j
  induction j with
  | zero => intro rs _ _; rfl
  | succ j ih =>
    intro rs hl hk
    rcases Nat.lt_or_ge j rs.length with h | h
    · rw [List.take_succ_eq_append_getElem h, FO_snoc]
      unfold Mk.put
      rw [if_neg, ih rs hl hk]
      intro e
      exact hk _ (List.getElem_mem h) (by unfold R.key; rw [e.1, e.2])
    · have := ih rs hl hk
      rw [List.take_of_length_le h] at this
      rw [List.take_of_length_le (by omega)]
      exact this
theorem FO_at {rs : List R} (hr : Rising rs) (hl : ∀ r ∈ rs, r.len < 64) (i : Nat) (hi : i < rs.length) : ∀ j, i < j → j ≤ rs.length → FO (rs.take j) rs[i].addr rs[i].len = some (rs[i].ms, rs[i].mm) := by
  intro j
  induction j with
  | zero => intro h; omega
  | succ j ih =>
    intro h1 h2
    rw [List.take_succ_eq_append_getElem (by omega), FO_snoc]
    unfold Mk.put
    rcases Nat.lt_or_eq_of_le (Nat.le_of_lt_succ h1) with h | h
    · rw [if_neg, ih h (by omega)]
      intro e
      have := hr.get h (by omega)
      unfold R.key at this
      rw [e.1, e.2] at this
      omega
    · subst h
      rw [if_pos ⟨rfl, rfl⟩]
theorem FO_next {rs : List R} (hr : Rising rs) (hl : ∀ r ∈ rs, r.len < 64) (j : Nat) (hj : j < rs.length) : FO (rs.take j) rs[j].addr rs[j].len = none := by
  have : FO ((rs.take j).take j) rs[j].addr rs[j].len = none := FO_none _ _ (hl _ (List.getElem_mem hj)) j (rs.take j) (fun r h => hl r (List.mem_of_mem_take h)) (fun r h => by
    obtain ⟨i, hi, rfl⟩ := List.getElem_of_mem h
    have hij : i < j := by simp only [List.length_take] at hi; omega
    rw [List.getElem_take]
    have := hr.get hij hj
    show rs[i].key ≠ rs[j].key
    omega)
  rwa [List.take_take, Nat.min_self] at this
set_option maxHeartbeats 1000000 in
theorem Of_any (w : World) (A : Option Addr) (n cp : Nat) (rs : List R) (hn : n = rs.length) (h60 : n ≤ 60) (hc : RSl w A rs) (hr : Rising rs) (hok : ∀ r ∈ rs, r.Ok) :
    Calls Try.prog 20 #[.slice A n cp] w fun e w' => e = .returned (.pointer (some ⟨w.heap.size, 0, none⟩)) ∧ SrcAt w.heap.size w' w.heap.size (FO rs) n ∧ Below w.heap.size w w' := by
  have HN := Lib.hid hn
  have HC := Lib.hid hc
  have HO := Lib.hid (And.intro hr hok)
  clear hn hc hr hok
  go_enter Try.func20, Try.ntmps20
  go_wp2_with (go_at_call 7; (with_reducible refine (New_any _).mono ?_); rintro e w1 ⟨rfl, S1, B1⟩; have H1 := Lib.hid (And.intro S1 (K.of B1 (Nat.le_refl _))); clear S1 B1)
  go_loopw [9] (fun i wr => ∃ j : Nat, j ≤ n ∧ i = .int .i64 j ∧ Hid (SrcAt w.heap.size wr w.heap.size (FO (rs.take j)) j ∧ K w.heap.size w wr)) (fun i _ => n - (intOf i).toNat)
  case atStart => exact ⟨0, by omega, rfl, H1⟩
  case round =>
    obtain ⟨j, hj, rfl, HR⟩ := hrel
    clear H1
    rcases Nat.lt_or_ge j n with hlt | hge
    · have hlt' : (j : Int) < n := by omega
      have hjr : j < rs.length := by rw [← HN.out]; exact hlt
      obtain ⟨b, o, rfl, hb, hA⟩ := (HC.out.below HR.out.2.below) j hjr
      have hO := HO.out.2 _ (List.getElem_mem hjr)
      have hnx := FO_next HO.out.1 (fun r h => by have := (HO.out.2 r h).2.1; omega) j hjr
      have hsn : FO (rs.take (j + 1)) = (FO (rs.take j)).put rs[j].addr rs[j].len (rs[j].ms, rs[j].mm) := by rw [List.take_succ_eq_append_getElem hjr, FO_snoc]
      generalize rs[j] = r at *
      obtain ⟨h1, h2, h3, h4, h5, h6, h7, h8, -⟩ := hO
      obtain ⟨k0, k1, k2, k3, k4, k5, k6, k7, k8, k9⟩ := hA
      have CL : Hid (∀ W, SrcAt w.heap.size W w.heap.size (FO (rs.take j)) j → w.heap.size ≤ W.heap.size → Calls Try.prog 11 #[.pointer (some ⟨w.heap.size, 0, none⟩), .agg #[.int .u32 (r.addr : Int), .int .u8 (r.len : Int)], .agg #[.int .u16 (r.ms : Int), .int .u16 (r.mm : Int)]] W fun e w' => e = .returned (.int .i64 0) ∧ SrcAt w.heap.size w' w.heap.size (FO (rs.take (j + 1))) (j + 1) ∧ K w.heap.size W w') := Lib.hid fun W hW hl => by
        have := Lower_any W w.heap.size _ j hW hl r.addr r.len h1 (by omega) h8 r.ms r.mm h7 (by omega)
        unfold Mk.best at this
        rw [hnx] at this
        rw [hsn]
        exact this
      clear hnx hsn h1 h2 h3 h4 h5 h6 h7 h8
      generalize r.via = x5 at *
      go_wp2_with (go_at_call 11; (with_reducible refine (CL.out _ (HR.out.1.below ((Below.refl _ _).alloc (Nat.le_refl _) _)) (by have := HR.out.2.below.size; simp; omega)).mono ?_); rintro e w2 ⟨rfl, S2, K2⟩; have H2 := Lib.hid (And.intro S2 ((HR.out.2.trans (K.of ((Below.refl _ _).alloc (Nat.le_refl _) _) HR.out.2.below.size)).trans K2)); clear S2 K2)
      go_roundw
      case rel => exact ⟨j + 1, hlt, by go_num, H2.out⟩
      case measure => simp [intOf]; omega
    · obtain rfl : j = n := by omega
      have hge' : ¬ (j : Int) < j := by omega
      go_wp2
      go_ret
      have := HR.out.1
      rw [List.take_of_length_le (by rw [← HN.out]; exact Nat.le_refl _)] at this
      exact ⟨rfl, this, HR.out.2.below⟩
end Go.Proofs.Ytldaggcopbnehaa.Src
