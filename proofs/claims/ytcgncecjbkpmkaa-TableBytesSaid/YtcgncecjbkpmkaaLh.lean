/- What Decode takes has just these bytes. -/
import Derived.Test.YtcgncecjbkpmkaaLg
namespace Go.Proofs.Ytcgncecjbkpmkaa.Tab
open Pre Ser Chg Coin

theorem got_sound : ∀ l : List UInt8, (got l).2.2 = 0 → l = coin (got l).1 ++ l.drop (got l).2.1
  | [], h => by simp [got] at h
  | b :: r, h => by
    have e : got (b :: r) = if r.length + 1 < lead b.toNat then (0, 0, 5) else if sz (val b r) = lead b.toNat then (val b r, lead b.toNat, 0) else (0, 0, 4) := rfl
    rw [e] at h ⊢
    split
    · rename_i h1; rw [if_pos h1] at h; simp at h
    · rename_i h1; rw [if_neg h1] at h
      split
      · rename_i h2
        show b :: r = coin (val b r) ++ (b :: r).drop (lead b.toNat)
        rw [coin_val b r (by omega) h2, List.take_append_drop]
      · rename_i h2; rw [if_neg h2] at h; simp at h
theorem tk_sound {l l' : List UInt8} {f n most : Nat} (e : takeV l f most = (n, l', 0)) : f = 0 ∧ l = coin n ++ l' := by
  by_cases hf : f = 0
  · subst hf
    refine ⟨rfl, ?_⟩
    unfold takeV at e
    rw [if_neg (by decide)] at e
    split at e
    · rename_i h1
      injection e with _ e; injection e with _ e
      exact absurd e h1
    · rename_i h1
      split at e
      · injection e with _ e; injection e with _ e; cases e
      · injection e with e1 e; injection e with e2 e3
        have := got_sound l (by omega)
        rw [e1, e2] at this
        exact this
  · rw [tk_stuck l f most hf] at e
    injection e with _ e; injection e with _ e
    exact absurd e hf
theorem tr_sound {l l' : List UInt8} {r : R} (e : tr l 0 = (r, l', 0)) : l = rowB r ++ l' := by
  obtain ⟨a, l1, f1, e1, b1, k1, g1⟩ := tk_next l 0 4294967295 (by decide)
  obtain ⟨n, l2, f2, e2, b2, k2, g2⟩ := tk_next l1 f1 255 k1
  obtain ⟨s, l3, f3, e3, b3, k3, g3⟩ := tk_next l2 f2 65535 k2
  obtain ⟨m, l4, f4, e4, b4, k4, g4⟩ := tk_next l3 f3 65534 k3
  obtain ⟨v, l5, f5, e5, b5, k5, g5⟩ := tk_next l4 f4 9223372036854775808 k4
  obtain ⟨mt, l6, f6, e6, b6, k6, g6⟩ := tk_next l5 f5 65534 k5
  obtain ⟨sq, l7, f7, e7, b7, k7, g7⟩ := tk_next l6 f6 65535 k6
  simp only [tr, e1, e2, e3, e4, e5, e6, e7] at e
  have hnil : coins [] = [] := rfl
  split at e
  · rename_i hv
    injection e with er e; injection e with el ef
    subst hv ef
    obtain ⟨q5, s5⟩ := tk_sound e5
    subst q5
    obtain ⟨q4, s4⟩ := tk_sound e4
    subst q4
    obtain ⟨q3, s3⟩ := tk_sound e3
    subst q3
    obtain ⟨q2, s2⟩ := tk_sound e2
    subst q2
    obtain ⟨_, s1⟩ := tk_sound e1
    rw [s1, s2, s3, s4, s5, ← er, ← el]
    unfold rowB
    simp only [coins_cons, hnil, Bool.false_eq_true, if_false, List.append_assoc, List.append_nil]
  · rename_i hv
    injection e with er e; injection e with el ef
    subst ef
    obtain ⟨q7, s7⟩ := tk_sound e7
    subst q7
    obtain ⟨q6, s6⟩ := tk_sound e6
    subst q6
    obtain ⟨q5, s5⟩ := tk_sound e5
    subst q5
    obtain ⟨q4, s4⟩ := tk_sound e4
    subst q4
    obtain ⟨q3, s3⟩ := tk_sound e3
    subst q3
    obtain ⟨q2, s2⟩ := tk_sound e2
    subst q2
    obtain ⟨_, s1⟩ := tk_sound e1
    have hv1 : v - 1 + 1 = v := by omega
    rw [s1, s2, s3, s4, s5, s6, s7, ← er, ← el]
    unfold rowB
    simp only [coins_cons, hnil, if_true, List.append_assoc, List.append_nil, hv1]
theorem run_sound (a : St) (ha : a.rs = []) : ∀ k, (∀ i, i < k → (run i a).on) → (∀ r ∈ (run k a).rs, r.Fits) ∧ ((run k a).f = 0 → a.l = (run k a).rs.flatMap rowB ++ (run k a).l ∧ (run k a).rs.length + (run k a).n = a.n)
  | 0, _ => by
    refine ⟨fun r hr => ?_, fun _ => ?_⟩
    · rw [run, ha] at hr; cases hr
    · rw [run, ha]; simp
  | k + 1, h => by
    obtain ⟨h1, h2⟩ := run_sound a ha k (fun i hi => h i (by omega))
    obtain ⟨ho1, ho2⟩ := h k (Nat.lt_succ_self k)
    obtain ⟨h3, h4⟩ := h2 ho2
    rw [run]
    generalize run k a = s at *
    obtain ⟨n, l, f, rs⟩ := s
    replace ho1 : 0 < n := ho1
    replace ho2 : f = 0 := ho2
    subst ho2
    replace h1 : ∀ r ∈ rs, r.Fits := h1
    replace h3 : a.l = rs.flatMap rowB ++ l := h3
    replace h4 : rs.length + n = a.n := h4
    obtain ⟨r, lz, fz, htr⟩ : ∃ r lz fz, tr l 0 = (r, lz, fz) := ⟨_, _, _, rfl⟩
    have hfit := (tr_facts l 0 (by decide)).1
    unfold St.stp
    simp only [htr] at hfit ⊢
    refine ⟨fun r' hr' => ?_, fun hz => ?_⟩
    · rcases List.mem_append.1 hr' with hh | hh
      · exact h1 r' hh
      · rw [List.mem_singleton.1 hh]; exact hfit
    · subst hz
      have := tr_sound htr
      refine ⟨?_, ?_⟩
      · rw [h3, this, List.flatMap_append, List.flatMap_cons]
        simp
      · rw [List.length_append, List.length_singleton]; omega
/-- Any bytes that are a table are just its own. -/
theorem dec_sound (l : List UInt8) (s : St) (h : Reach (st0 l).2.2 s) (ho : ¬ s.on) (he : endV s.l s.f = 0) :
    T.enc ⟨s.rs, (st0 l).1, (st0 l).2.1⟩ = l ∧ (∀ r ∈ s.rs, r.Fits) ∧ (st0 l).1 < 18446744073709551616 ∧ (st0 l).2.1 < 18446744073709551616 := by
  obtain ⟨a, l1, f1, e1, b1, k1, g1⟩ := tk_next l 0 18446744073709551615 (by decide)
  obtain ⟨b, l2, f2, e2, b2, k2, g2⟩ := tk_next l1 f1 18446744073709551615 k1
  obtain ⟨c, l3, f3, e3, b3, k3, g3⟩ := tk_next l2 f2 18446744073709551615 k2
  have hs0 : st0 l = (a, b, ⟨c, l3, f3, []⟩) := by simp only [st0, e1, e2, e3]
  rw [hs0] at h ⊢
  obtain ⟨k, hk, hon⟩ := h
  obtain ⟨hf, hrs⟩ := run_sound ⟨c, l3, f3, []⟩ rfl k hon
  rw [← hk] at hf hrs
  have hz : s.f = 0 ∧ s.l = [] := by
    unfold endV at he
    split at he
    · cases he
    · rename_i h1
      refine ⟨he, ?_⟩
      rcases hl : s.l with _ | ⟨x, y⟩
      · rfl
      · exact absurd ⟨he, by rw [hl]; simp⟩ h1
  obtain ⟨h3, h4⟩ := hrs hz.1
  replace h3 : l3 = s.rs.flatMap rowB ++ s.l := h3
  replace h4 : s.rs.length + s.n = c := h4
  have hn : s.n = 0 := by
    by_cases h0 : 0 < s.n
    · exact absurd ⟨h0, hz.1⟩ ho
    · omega
  have hf3 : f3 = 0 := by
    cases k with
    | zero => rw [hk] at hz; exact hz.1
    | succ k => exact (hon 0 (by omega)).2
  subst hf3
  obtain ⟨q3, s3⟩ := tk_sound e3
  subst q3
  obtain ⟨q2, s2⟩ := tk_sound e2
  subst q2
  obtain ⟨_, s1⟩ := tk_sound e1
  refine ⟨?_, hf, by show a < _; omega, by show b < _; omega⟩
  have hnil : coins [] = [] := rfl
  have hc : s.rs.length = c := by omega
  unfold T.enc
  simp only [coins_cons, hnil, List.append_nil]
  rw [hc, s1, s2, s3, h3, hz.2]
  simp only [List.append_assoc, List.append_nil]
end Go.Proofs.Ytcgncecjbkpmkaa.Tab
