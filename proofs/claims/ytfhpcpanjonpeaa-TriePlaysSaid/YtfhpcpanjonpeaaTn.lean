/- How many routes a trie has; what is left behind the longest one. -/
import Derived.Test.YtfhpcpanjonpeaaTh
namespace Go.Proofs.Ytfhpcpanjonpeaa.Tri
open Pre
open Go.ChangeShapes Go.WideShapes Go.ChangeAt Go.RowKit

theorem mem_ok {t : T} {y : R} (h : t.WF) (m : t.Mem y) : y.Ok := by
  induction t with
  | nil => exact m.elim
  | node a n x l r il ir =>
    obtain ⟨h1, h2, _, _, h5, h6⟩ := h
    rcases m with m | m | m
    · have e := h2 y m
      exact ⟨by rw [e.1]; exact h1.1, by rw [e.2]; exact h1.2.1, by rw [e.1, e.2]; exact h1.2.2⟩
    · exact il h5 m
    · exact ir h6 m
theorem fork_len (a n : Nat) (x : Option R) (s : Bool) (t u : T) : (fork a n x s t u).list.length = x.toList.length + (t.list.length + u.list.length) := by
  unfold fork
  split <;> simp only [T.list, List.length_append] <;> omega
theorem put_len (t : T) (r : R) : (t.put r).1.list.length = if (t.put r).2 then t.list.length + 1 else t.list.length := by
  induction t with
  | nil => simp [T.put, leaf, T.list]
  | node a n x l rr il ir =>
    unfold T.put
    split
    · split
      · cases x <;> simp [T.list] <;> omega
      · split
        · simp only [T.list, List.length_append, ir]
          split <;> omega
        · simp only [T.list, List.length_append, il]
          split <;> omega
    · split
      · simp only [fork_len, if_true]
        simp [T.list]; omega
      · simp only [fork_len, if_true]
        simp [leaf, T.list]
theorem needed_len (a n : Nat) (x : Option R) (l r : T) : (needed a n x l r).list.length = x.toList.length + (l.list.length + r.list.length) := by
  cases x with
  | some y => simp [needed, T.list]; omega
  | none => cases l <;> cases r <;> simp only [needed, T.list, List.length_append, Option.toList, List.length_nil] <;> omega
theorem drop_len (t : T) (b m : Nat) (h : (t.drop b m).2 = true) : (t.drop b m).1.list.length + 1 = t.list.length := by
  induction t with
  | nil => cases h
  | node a n x l r il ir =>
    unfold T.drop at h ⊢
    split
    · rename_i he
      rw [if_pos he] at h
      cases x with
      | none => cases h
      | some y => simp [needed_len, T.list]
    · rename_i he
      rw [if_neg he] at h
      split
      · rename_i hs
        rw [if_pos hs] at h
        have := ir h
        simp only [needed_len, T.list, List.length_append]
        omega
      · rename_i hs
        rw [if_neg hs] at h
        have := il h
        simp only [needed_len, T.list, List.length_append]
        omega
/-- How many are counted is how many there are. -/
theorem puts_len (rs : List R) (k : Nat) : (puts rs k).1.list.length = (puts rs k).2 := by
  induction k with
  | zero => rfl
  | succ k ih =>
    unfold puts
    dsimp only
    rw [put_len, ih]
/-- The routes of acts, by their places. -/
def rtl (ds : List A4) : List R := (List.range ds.length).map fun i => ⟨(ds.getD i default).pa, (ds.getD i default).pk, i, 0, 0⟩
theorem rtl_len (ds : List A4) : (rtl ds).length = ds.length := by simp [rtl]
theorem rtl_get (ds : List A4) (k : Nat) (hk : k < ds.length) : (rtl ds).getD k ⟨0, 0, 0, 0, 0⟩ = ⟨ds[k].pa, ds[k].pk, k, 0, 0⟩ := by
  have e : ds.getD k default = ds[k] := by rw [List.getD_eq_getElem?_getD, List.getElem?_eq_getElem hk]; rfl
  simp [rtl, hk]
theorem rtl_ok (ds : List A4) (h : ∀ d ∈ ds, d.Ok) : ∀ r ∈ rtl ds, r.Ok := by
  intro r hr
  simp only [rtl, List.mem_map, List.mem_range] at hr
  obtain ⟨k, hk, rfl⟩ := hr
  have e : ds.getD k default = ds[k] := by rw [List.getD_eq_getElem?_getD, List.getElem?_eq_getElem hk]; rfl
  rw [e]
  exact place_ok _ (h _ (List.getElem_mem hk))
theorem ASl.oks {w : World} {A : Option Addr} {ds : List A4} (h : ASl w A ds) : ∀ d ∈ ds, d.Ok := fun d hd => by
  obtain ⟨k, hk, rfl⟩ := List.getElem_of_mem hd
  obtain ⟨b, o, _, _, ha⟩ := h k hk
  exact ha.ok
/-- What is left of those that have an address is shorter. -/
theorem left_less {t : T} {b : Nat} {y : R} (h : t.WF) (hm : t.Mem y) (ha : alike y.a b y.n = true) (hl : ∀ z, t.Mem z → alike z.a b z.n = true → z.n ≤ y.n) : ∀ z, (t.drop y.a y.n).1.Mem z → alike z.a b z.n = true → z.n < y.n := fun z hz hzb => by
  obtain ⟨m, ne⟩ := (drop_mem y.a y.n h z).1 hz
  have hle := hl z m hzb
  rcases Nat.lt_or_ge z.n y.n with h1 | h1
  · exact h1
  · have e : z.n = y.n := by omega
    refine absurd ⟨?_, e⟩ ne
    have oz := (mem_ok h m).2.2
    have oy := (mem_ok h hm).2.2
    rw [e] at oz hzb
    exact right_same oz oy (alike_trans hzb (alike_symm ha))
/-- What lies in memory between two looks. -/
structure NB (w wr : World) (g b i last : Nat) : Prop where
  be : Below w.heap.size w wr
  tr : ∃ t bs, TrAt wr g t t.list.length bs ∧ (∀ x ∈ g :: bs, w.heap.size ≤ x) ∧ t.WF ∧ t.list.length ≤ 40 ∧ ∀ y, t.Mem y → alike y.a b y.n = true → y.n < last
  li : (i = 0 ∧ last = 99) ∨ (0 < i ∧ last + i ≤ 33)
theorem OfAt.nb {w wr : World} {g b n : Nat} {rs : List R} (h : OfAt w wr g rs n) (hn : n ≤ 40) (hr : ∀ r ∈ rs, r.Ok) (hl : n ≤ rs.length) : NB w wr g b 0 99 := by
  obtain ⟨bs, htr, hb⟩ := h.tr
  have hwf := puts_wf hr n hl
  rw [← puts_len] at htr
  refine ⟨h.be, ⟨_, bs, htr, hb, hwf, ?_, fun y hy _ => ?_⟩, .inl ⟨rfl, rfl⟩⟩
  · rw [puts_len]; have := puts_le rs n; omega
  · have := (mem_ok hwf hy).2.1; omega
theorem NB.next {w wr w1 w2 : World} {g b i last : Nat} {t : T} {bs bs' : List Nat} {y : R} (h : NB w wr g b i last) (B : Below wr.heap.size wr w1) (hb : ∀ x ∈ g :: bs, w.heap.size ≤ x) (hw : t.WF) (hlen : t.list.length ≤ 40)
    (hm : t.Mem y) (ha : alike y.a b y.n = true) (hl : ∀ z, t.Mem z → alike z.a b z.n = true → z.n ≤ y.n) (hlt : y.n < last) (T2 : TrAt w2 g (t.drop y.a y.n).1 (t.list.length - 1) bs') (fr : ∀ x ∈ bs', x ∈ bs) (G : Grew w1 w2 (g :: bs)) : NB w w2 g b (i + 1) y.n := by
  have hs := h.be.size
  have hs1 := B.size
  have hwas : (t.drop y.a y.n).2 = true := (drop_was y.a y.n hw).2 ⟨y, hm, rfl, rfl⟩
  have hdl := drop_len t y.a y.n hwas
  have h32 := (mem_ok hw hm).2.1
  rw [show t.list.length - 1 = (t.drop y.a y.n).1.list.length by omega] at T2
  refine ⟨grew_to (h.be.trans (B.mono hs)) G hb (by omega), ⟨_, bs', T2, fun x hx => ?_, drop_wf _ _ hw, by omega, left_less hw hm ha hl⟩, ?_⟩
  · rcases List.mem_cons.1 hx with rfl | hx
    · exact hb x (by simp)
    · exact hb x (by simp [fr x hx])
  · rcases h.li with ⟨rfl, _⟩ | ⟨h0, h1⟩
    · exact .inr ⟨by omega, by omega⟩
    · exact .inr ⟨by omega, by omega⟩
end Go.Proofs.Ytfhpcpanjonpeaa.Tri
