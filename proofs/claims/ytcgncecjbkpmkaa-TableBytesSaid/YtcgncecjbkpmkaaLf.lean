/- Bytes of a table are read as that table. -/
import Derived.Test.YtcgncecjbkpmkaaLe
namespace Go.Proofs.Ytcgncecjbkpmkaa.Tab
open Pre Ser Chg Coin

theorem take_le (n : Nat) (hn : n < 18446744073709551616) (r : List UInt8) (most : Nat) (hm : n ≤ most) : takeV (coin n ++ r) 0 most = (n, r, 0) := by
  have h := got_coin n hn r
  have h2 : (coin n ++ r).drop (sz n) = r := by rw [← length_coin n]; simp
  have h3 : ¬ most < n := by omega
  simp [takeV, h, h2, h3]
theorem coins_cons (n : Nat) (ns : List Nat) : coins (n :: ns) = coin n ++ coins ns := by unfold coins; rw [List.flatMap_cons]
theorem tr_row (r : R) (hf : r.Fits) (hg : r.has = false → r.via = 0 ∧ r.metric = 0 ∧ r.seq = 0) (x : List UInt8) : tr (rowB r ++ x) 0 = (r, x, 0) := by
  obtain ⟨h1, h2, h3, h4, h5, h6, h7⟩ := hf
  obtain ⟨a, n, has, v, m, s, ms, mm⟩ := r
  simp only at h1 h2 h3 h4 h5 h6 h7 hg
  have hnil : coins [] = [] := rfl
  cases has
  · obtain ⟨e1, e2, e3⟩ := hg rfl
    subst e1 e2 e3
    have e : rowB ⟨a, n, false, 0, 0, 0, ms, mm⟩ ++ x = coin a ++ (coin n ++ (coin ms ++ (coin mm ++ (coin 0 ++ x)))) := by
      unfold rowB
      simp only [coins_cons, hnil, Bool.false_eq_true, if_false, List.append_assoc, List.append_nil]
    rw [e]
    have q1 := take_le a (by omega) (coin n ++ (coin ms ++ (coin mm ++ (coin 0 ++ x)))) 4294967295 (by omega)
    have q2 := take_le n (by omega) (coin ms ++ (coin mm ++ (coin 0 ++ x))) 255 (by omega)
    have q3 := take_le ms (by omega) (coin mm ++ (coin 0 ++ x)) 65535 (by omega)
    have q4 := take_le mm (by omega) (coin 0 ++ x) 65534 (by omega)
    have q5 := take_le 0 (by omega) x 9223372036854775808 (by omega)
    simp only [tr, q1, q2, q3, q4, q5, if_true]
  · have e : rowB ⟨a, n, true, v, m, s, ms, mm⟩ ++ x = coin a ++ (coin n ++ (coin ms ++ (coin mm ++ (coin (v + 1) ++ (coin m ++ (coin s ++ x)))))) := by
      unfold rowB
      simp only [coins_cons, hnil, if_true, List.append_assoc, List.append_nil]
    rw [e]
    have q1 := take_le a (by omega) (coin n ++ (coin ms ++ (coin mm ++ (coin (v + 1) ++ (coin m ++ (coin s ++ x)))))) 4294967295 (by omega)
    have q2 := take_le n (by omega) (coin ms ++ (coin mm ++ (coin (v + 1) ++ (coin m ++ (coin s ++ x))))) 255 (by omega)
    have q3 := take_le ms (by omega) (coin mm ++ (coin (v + 1) ++ (coin m ++ (coin s ++ x)))) 65535 (by omega)
    have q4 := take_le mm (by omega) (coin (v + 1) ++ (coin m ++ (coin s ++ x))) 65534 (by omega)
    have q5 := take_le (v + 1) (by omega) (coin m ++ (coin s ++ x)) 9223372036854775808 (by omega)
    have q6 := take_le m (by omega) (coin s ++ x) 65534 (by omega)
    have q7 := take_le s (by omega) x 65535 (by omega)
    have hne : ¬ v + 1 = 0 := by omega
    simp only [tr, q1, q2, q3, q4, q5, q6, q7, if_neg hne, Nat.add_sub_cancel]
theorem st0_enc (t : T) (h1 : t.no < 18446744073709551616) (h2 : t.time < 18446744073709551616) (h3 : t.rows.length < 18446744073709551616) :
    st0 t.enc = (t.no, t.time, ⟨t.rows.length, t.rows.flatMap rowB, 0, []⟩) := by
  have hnil : coins [] = [] := rfl
  have e : t.enc = coin t.no ++ (coin t.time ++ (coin t.rows.length ++ t.rows.flatMap rowB)) := by
    unfold T.enc
    simp only [coins_cons, hnil, List.append_assoc, List.append_nil]
  rw [e]
  have q1 := take_le t.no h1 (coin t.time ++ (coin t.rows.length ++ t.rows.flatMap rowB)) 18446744073709551615 (by omega)
  have q2 := take_le t.time h2 (coin t.rows.length ++ t.rows.flatMap rowB) 18446744073709551615 (by omega)
  have q3 := take_le t.rows.length h3 (t.rows.flatMap rowB) 18446744073709551615 (by omega)
  simp only [st0, q1, q2, q3]
theorem run_rows (rs : List R) (hf : ∀ r ∈ rs, r.Ok) (k : Nat) (hk : k ≤ rs.length) : run k ⟨rs.length, rs.flatMap rowB, 0, []⟩ = ⟨rs.length - k, (rs.drop k).flatMap rowB, 0, rs.take k⟩ := by
  induction k with
  | zero => simp [run]
  | succ k ih =>
    have hkl : k < rs.length := by omega
    have hr := hf _ (List.getElem_mem hkl)
    rw [run, ih (by omega)]
    unfold St.stp
    rw [List.drop_eq_getElem_cons hkl, List.flatMap_cons, tr_row _ hr.fits hr.2.2.2.2.2.2.2.2]
    rw [List.take_succ_eq_append_getElem hkl]
    simp only [St.mk.injEq, and_true]
    omega
theorem reach_enc (t : T) (h : t.Ok) (hl : t.rows.length < 18446744073709551616) (s : St) (hr : Reach (st0 t.enc).2.2 s) (ho : ¬ s.on) : s = ⟨0, [], 0, t.rows⟩ := by
  rw [st0_enc t h.no h.time hl] at hr
  obtain ⟨k, rfl, hk⟩ := hr
  dsimp only at hk ho ⊢
  have hfin := run_rows t.rows h.ok t.rows.length (Nat.le_refl _)
  have hkl : k ≤ t.rows.length := by
    rcases Nat.lt_or_ge t.rows.length k with h1 | h1
    · have := hk _ h1
      rw [hfin] at this
      have := this.1
      simp at this
    · exact h1
  have hrun := run_rows t.rows h.ok k hkl
  have hk2 : k = t.rows.length := by
    rcases Nat.lt_or_eq_of_le hkl with h1 | h1
    · exfalso
      apply ho
      rw [hrun]
      exact ⟨by show 0 < t.rows.length - k; omega, rfl⟩
    · exact h1
  subst hk2
  rw [hfin]
  simp
end Go.Proofs.Ytcgncecjbkpmkaa.Tab
