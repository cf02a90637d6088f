/- What a history comes to. -/
import Derived.Test.YtldaggcopbnehaaKh
namespace Go.Proofs.Ytldaggcopbnehaa.Tab
open Pre Ser Chg

def tabOf (cs : List C) : T := cs.foldl T.put T.new
theorem tabOf_snoc (cs : List C) (c : C) : tabOf (cs ++ [c]) = (tabOf cs).put c := by simp [tabOf]
theorem tabOf_take (cs : List C) (j : Nat) (hj : j < cs.length) : tabOf (cs.take (j + 1)) = (tabOf (cs.take j)).put cs[j] := by
  rw [List.take_succ_eq_append_getElem hj, tabOf_snoc]
/-- Changes that a table takes. -/
structure Gd (cs : List C) : Prop where
  ok : ∀ j (hj : j < cs.length), cs[j].Ok
  no : ∀ j (hj : j < cs.length), cs[j].no = j + 1
  time : ∀ j (hj : j < cs.length), (tabOf (cs.take j)).time ≤ cs[j].time
  gone : ∀ j (hj : j < cs.length), cs[j].gone = true → (rowOf (cs.take j) cs[j].addr cs[j].len).ok = true ∧ (rowOf (cs.take j) cs[j].addr cs[j].len).r.has = true
theorem HistGood.gd {ds : List HAct} {cs : List C} (h : HistGood ds cs) (hl : cs.length ≤ ds.length) : Gd cs := by
  refine ⟨fun j hj => (h.ok j hj).2.2, fun j hj => (h.ok j hj).1, fun j hj => ?_, h.gone⟩
  rw [(h.ok j hj).2.1]
  cases j with
  | zero => exact Nat.zero_le _
  | succ j =>
    rw [tabOf_take cs j (by omega)]
    show cs[j].time ≤ _
    rw [(h.ok j (by omega)).2.1, tsum_succ ds (j + 1) (by omega)]
    omega
theorem take_ok {cs : List C} (h : Gd cs) (j : Nat) (hj : j ≤ cs.length) : (tabOf (cs.take j)).Ok ∧ (tabOf (cs.take j)).rows.length ≤ j ∧ (tabOf (cs.take j)).no = j := by
  induction j with
  | zero => exact ⟨T.Ok.new, Nat.le_refl _, rfl⟩
  | succ j ih =>
    obtain ⟨h1, h2, h3⟩ := ih (by omega)
    rw [tabOf_take cs j (by omega)]
    refine ⟨h1.put (h.ok j (by omega)), ?_, h.no j (by omega)⟩
    have := upd_len cs[j] (tabOf (cs.take j)).rows
    show (upd _ _).length ≤ _
    omega
/-- A table's row is Row's. -/
theorem look_rowOf {cs : List C} (h : Gd cs) (a k : Nat) (hk : k ≤ 32) (j : Nat) (hj : j ≤ cs.length) :
    look (key a k) (tabOf (cs.take j)).rows = if (rowOf (cs.take j) a k).ok then some (rowOf (cs.take j) a k).r else none := by
  induction j with
  | zero => rfl
  | succ j ih =>
    have hjl : j < cs.length := by omega
    have ih := ih (by omega)
    have hc := h.ok j hjl
    have hg := h.gone j hjl
    have hf := rowOf_fit a k (cs.take j) (fun c hc => by
      obtain ⟨i, hi, rfl⟩ := List.getElem_of_mem hc
      rw [List.getElem_take]
      exact (h.ok i (by simp only [List.length_take] at hi; omega)).2.2.2.2.2.2.1)
    rw [tabOf_take cs j hjl]
    show look _ (upd _ _) = _
    rw [look_upd _ _ (take_ok h j (by omega)).1.up, ih, List.take_succ_eq_append_getElem hjl, rowOf_snoc]
    generalize cs[j] = c at *
    have hcl := hc.2.2.2.1
    have hkey : c.key = key a k ↔ c.addr = a ∧ c.len = k := key_inj (by omega) (by omega)
    by_cases he : c.addr = a ∧ c.len = k
    · rw [if_pos (hkey.2 he)]
      obtain ⟨e1, e2⟩ := he
      rw [e1, e2] at hg
      generalize rowOf (cs.take j) a k = s at *
      obtain ⟨seen, ⟨ra, rk, has, v, m, q, ms, mm⟩, ok⟩ := s
      have f1 : ra = a := hf.addr
      have f2 : rk = k := hf.len
      subst f1 f2
      obtain ⟨no, tm, g, ca, cn, via, mt, sq⟩ := c
      replace e1 : ca = ra := e1
      replace e2 : cn = rk := e2
      subst e1 e2
      cases g
      · cases ok
        · simp [S.go, S.step, R.first]
        · cases hn : near sq mt ms mm <;> simp [S.go, S.step, R.next, hn]
      · have := (hg rfl).1
        replace this : ok = true := this
        subst this
        simp [S.go, S.step, R.next]
    · rw [if_neg (fun e => he (hkey.1 e))]
      simp only [S.go, if_neg he]
theorem gone_there {cs : List C} (h : Gd cs) (j : Nat) (hj : j < cs.length) : cs[j].gone = true → ∃ r, look cs[j].key (tabOf (cs.take j)).rows = some r ∧ r.has = true := fun e => by
  obtain ⟨h1, h2⟩ := h.gone j hj e
  refine ⟨(rowOf (cs.take j) cs[j].addr cs[j].len).r, ?_, h2⟩
  have := look_rowOf h cs[j].addr cs[j].len (h.ok j hj).2.2.2.1 j (by omega)
  rw [h1] at this
  exact this
theorem Gd.take {cs : List C} (h : Gd cs) (n : Nat) : Gd (cs.take n) := by
  have e : ∀ j, j < (cs.take n).length → (cs.take n).take j = cs.take j := fun j hj => by rw [List.take_take, Nat.min_eq_left (by simp only [List.length_take] at hj; omega)]
  refine ⟨fun j hj => ?_, fun j hj => ?_, fun j hj => ?_, fun j hj => ?_⟩
  all_goals (try rw [e j hj]); rw [List.getElem_take]
  · exact h.ok j _
  · exact h.no j _
  · exact h.time j _
  · exact h.gone j _
def thereB (x : Nat) (rs : List R) : Bool := match rs[pos x rs]? with | some r => r.key == x | none => false
theorem there_yes {x : Nat} {rs : List R} (h : thereB x rs = true) : ∃ hp : pos x rs < rs.length, rs[pos x rs].key = x := by
  unfold thereB at h
  split at h
  · rename_i r hr
    obtain ⟨hp, he⟩ := List.getElem?_eq_some_iff.1 hr
    exact ⟨hp, by rw [he]; simpa using h⟩
  · cases h
theorem there_no {x : Nat} {rs : List R} (h : thereB x rs = false) : ∀ hp : pos x rs < rs.length, rs[pos x rs].key ≠ x := fun hp e => by
  unfold thereB at h
  rw [List.getElem?_eq_getElem hp] at h
  simp [e] at h
theorem look_there {x : Nat} {rs : List R} {r : R} (hr : Rising rs) (h : look x rs = some r) : thereB x rs = true ∧ ∃ hp : pos x rs < rs.length, rs[pos x rs] = r := by
  obtain ⟨j, hj, rfl⟩ := List.getElem_of_mem (List.mem_of_find?_eq_some h)
  have hx : rs[j].key = x := by have := List.find?_some h; simpa using this
  have h1 : pos x rs ≤ j := by
    rcases Nat.lt_or_ge j (pos x rs) with h1 | h1
    · have := pos_lt x rs j hj h1; omega
    · exact h1
  have hp : pos x rs < rs.length := by omega
  have h2 : pos x rs = j := by
    rcases Nat.lt_or_eq_of_le h1 with h2 | h2
    · have h3 := pos_at x rs hp
      have h4 := hr.get h2 hj
      omega
    · exact h2
  subst h2
  exact ⟨by unfold thereB; rw [List.getElem?_eq_getElem hp]; simpa using hx, hp, rfl⟩
theorem key_mk (no tm : Nat) (g : Bool) (a n via mt sq : Nat) : C.key ⟨no, tm, g, a, n, via, mt, sq⟩ = key a n := rfl
end Go.Proofs.Ytldaggcopbnehaa.Tab
