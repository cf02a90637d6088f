/- By prefixes: what is found of each, and how many are counted. -/
import Derived.Test.YtkbhmdoichiinaaSH
namespace Go.Proofs.Ytkbhmdoichiinaa.Rts
open Pre Ser
open Go.Proofs.Ytkbhmdoichiinaa.Src (row1 row2)
open Go.ChangeShapes Go.WideShapes Go.ChangeAt Go.RowKit
set_option maxRecDepth 8000
set_option linter.unusedVariables false

open Go.Proofs.Ytkbhmdoichiinaa.Src (Mk SrcAt pA pN fk fk_inj fk_lt fk_A fk_N fk_fk)
/-- Found, or there is none. -/
theorem Inv.look {L l : List E} {now : Nat} (h : Inv L l now) (a n b : Nat) : (∃ e, e ∈ L ∧ e.a = a ∧ e.n = n ∧ e.b = b ∧ ∃ fi, ∃ hf : fi < l.length, l[fi] = e ∧ idxV (isOf a n b) l = (fi : Int)) ∨ (idxV (isOf a n b) l = -1 ∧ ∀ e ∈ L, ¬ (e.a = a ∧ e.n = n ∧ e.b = b)) := by
  by_cases hex : ∃ e ∈ L, e.a = a ∧ e.n = n ∧ e.b = b
  · obtain ⟨e, he, rfl, rfl, rfl⟩ := hex
    exact Or.inl ⟨e, he, rfl, rfl, rfl, h.found he⟩
  · refine Or.inr ⟨idxV_miss fun j hj => ?_, fun e he h => hex ⟨e, he, h⟩⟩
    unfold isOf
    exact decide_eq_false fun h2 => hex ⟨_, (h.same _).2 (List.getElem_mem hj), h2⟩
theorem Inv.one {L l : List E} {now : Nat} (h : Inv L l now) {e e' : E} (he : e ∈ L) (he' : e' ∈ L) (h1 : e'.a = e.a) (h2 : e'.n = e.n) (h3 : e'.b = e.b) : e' = e := by
  obtain ⟨i, hi, rfl⟩ := List.getElem_of_mem he
  obtain ⟨j, hj, rfl⟩ := List.getElem_of_mem he'
  have hk : L[j].key = L[i].key := by unfold E.key; rw [h1, h2, h3]
  rcases Nat.lt_trichotomy i j with hl | hl | hl
  · exact absurd hk.symm (List.pairwise_iff_getElem.1 h.up.once i j hi hj hl)
  · subst hl; rfl
  · exact absurd hk (List.pairwise_iff_getElem.1 h.up.once j i hj hi hl)
/-- Of that prefix, told by one before: is there one with p? -/
def anyB (L : List E) (p : E → Bool) (a n b : Nat) : Bool := L.any fun e => ofp a n e && decide (e.b < b) && p e
theorem anyB_zero (L : List E) (p : E → Bool) (a n : Nat) : anyB L p a n 0 = false := by unfold anyB; simp
theorem anyB_hit {L l : List E} {now : Nat} (h : Inv L l now) (p : E → Bool) {e : E} (he : e ∈ L) : anyB L p e.a e.n (e.b + 1) = (anyB L p e.a e.n e.b || p e) := by
  rw [Bool.eq_iff_iff, Bool.or_eq_true]
  unfold anyB
  simp only [List.any_eq_true, Bool.and_eq_true, decide_eq_true_eq, ofp]
  constructor
  · rintro ⟨x, hx, ⟨⟨h1, h2⟩, h3⟩, h4⟩
    rcases Nat.lt_or_eq_of_le (Nat.lt_succ_iff.1 h3) with h5 | h5
    · exact Or.inl ⟨x, hx, ⟨⟨h1, h2⟩, h5⟩, h4⟩
    · exact Or.inr (h.one he hx h1 h2 h5 ▸ h4)
  · rintro (⟨x, hx, ⟨h1, h3⟩, h4⟩ | h4)
    · exact ⟨x, hx, ⟨h1, by omega⟩, h4⟩
    · exact ⟨e, he, ⟨⟨rfl, rfl⟩, by omega⟩, h4⟩
theorem anyB_miss {L : List E} (p : E → Bool) {a n b : Nat} (h : ∀ e ∈ L, ¬ (e.a = a ∧ e.n = n ∧ e.b = b)) : anyB L p a n (b + 1) = anyB L p a n b := by
  rw [Bool.eq_iff_iff]
  unfold anyB
  simp only [List.any_eq_true, Bool.and_eq_true, decide_eq_true_eq, ofp]
  constructor
  · rintro ⟨x, hx, ⟨⟨h1, h2⟩, h3⟩, h4⟩
    refine ⟨x, hx, ⟨⟨h1, h2⟩, ?_⟩, h4⟩
    rcases Nat.lt_or_eq_of_le (Nat.lt_succ_iff.1 h3) with h5 | h5
    · exact h5
    · exact absurd ⟨h1, h2, h5⟩ (h x hx)
  · rintro ⟨x, hx, ⟨h1, h3⟩, h4⟩
    exact ⟨x, hx, ⟨h1, by omega⟩, h4⟩
theorem anyB_all {L l : List E} {now : Nat} (h : Inv L l now) (p : E → Bool) (a n : Nat) : anyB L p a n 8 = (L.filter (ofp a n)).any p := by
  rw [Bool.eq_iff_iff]
  unfold anyB
  simp only [List.any_eq_true, Bool.and_eq_true, decide_eq_true_eq, List.mem_filter]
  constructor
  · rintro ⟨x, hx, ⟨h1, h3⟩, h4⟩
    exact ⟨x, ⟨hx, h1⟩, h4⟩
  · rintro ⟨x, ⟨hx, h1⟩, h4⟩
    exact ⟨x, hx, ⟨h1, (h.by8 x hx).1⟩, h4⟩
theorem blk_any {L l : List E} {now : Nat} (h : Inv L l now) (f : Mk) (a n : Nat) : blk f L a n = (anyB L (fun _ => true) a n 8 && !anyB L (feasE f) a n 8) := by
  rw [anyB_all h, anyB_all h]
  unfold blk
  congr 1
  cases L.filter (ofp a n) <;> simp
/-- How many first prefixes before k are in the list. -/
def cntB (bs : List (Nat × Nat)) (k : Nat) : Nat := ((List.range k).filter fun j => decide (fk j = j) && decide ((pA j, pN j) ∈ bs)).length
theorem cntB_zero (bs : List (Nat × Nat)) : cntB bs 0 = 0 := rfl
theorem cntB_le (bs : List (Nat × Nat)) (k : Nat) : cntB bs k ≤ k := by
  unfold cntB
  exact Nat.le_trans (List.length_filter_le _ _) (by simp)
theorem cntB_succ (bs : List (Nat × Nat)) (k : Nat) : cntB bs (k + 1) = cntB bs k + if fk k = k ∧ (pA k, pN k) ∈ bs then 1 else 0 := by
  unfold cntB
  rw [List.range_succ, List.filter_append, List.length_append]
  congr 1
  by_cases h : fk k = k ∧ (pA k, pN k) ∈ bs
  · rw [if_pos h]; simp [h.1, h.2]
  · rw [if_neg h, List.length_eq_zero_iff, List.filter_eq_nil_iff]
    intro x hx h2
    rw [List.mem_singleton.1 hx] at h2
    simp only [Bool.and_eq_true, decide_eq_true_eq] at h2
    exact h h2
theorem cntB_all {bs : List (Nat × Nat)} (hnd : bs.Nodup) (hp : ∀ p ∈ bs, ∃ k, p = (pA k, pN k)) : cntB bs 18 = bs.length := by
  have hperm : (((List.range 18).filter fun j => decide (fk j = j) && decide ((pA j, pN j) ∈ bs)).map fun j => (pA j, pN j)).Perm bs := by
    rw [List.perm_ext_iff_of_nodup _ hnd]
    · intro p
      simp only [List.mem_map, List.mem_filter, List.mem_range, Bool.and_eq_true, decide_eq_true_eq]
      constructor
      · rintro ⟨j, ⟨hj, h1, h2⟩, rfl⟩; exact h2
      · intro h
        obtain ⟨k, rfl⟩ := hp p h
        exact ⟨fk k, ⟨fk_lt k, fk_fk k, by rw [fk_A, fk_N]; exact h⟩, by rw [fk_A, fk_N]⟩
    · rw [List.Nodup, List.pairwise_map]
      refine ((List.nodup_range (n := 18)).filter _ |>.imp_of_mem ?_)
      intro x y hx hy hne he
      simp only [List.mem_filter, List.mem_range, Bool.and_eq_true, decide_eq_true_eq] at hx hy
      injection he with e1 e2
      exact hne (fk_inj hx.1 hy.1 hx.2.1 hy.2.1 e1 e2)
  have := hperm.length_eq
  rw [List.length_map] at this
  exact this
theorem BlkOK.count {f : Mk} {L l : List E} {now : Nat} {bs : List (Nat × Nat)} (h : Inv L l now) (hb : BlkOK f L bs) : cntB bs 18 = bs.length := cntB_all (hb.up.imp fun {x y} hxy he => by rw [he] at hxy; exact absurd hxy (Nat.lt_irrefl _)) fun p hp => by
  have h2 := (hb.mem p).1 hp
  rw [blk_any h] at h2
  have h3 := (Bool.and_eq_true_iff.1 h2).1
  unfold anyB at h3
  obtain ⟨e, he, h4⟩ := List.any_eq_true.1 h3
  simp only [Bool.and_eq_true, decide_eq_true_eq, ofp] at h4
  obtain ⟨-, k, h5, h6⟩ := h.by8 e he
  exact ⟨k, by rw [← h5, ← h6, h4.1.1.1, h4.1.1.2]⟩
/-- Is it among the first? -/
def hasB (bs : List (Nat × Nat)) (p : Nat × Nat) (k : Nat) : Bool := (bs.take k).any fun x => decide (x = p)
theorem hasB_zero (bs : List (Nat × Nat)) (p : Nat × Nat) : hasB bs p 0 = false := rfl
theorem hasB_succ {bs : List (Nat × Nat)} (p : Nat × Nat) {k : Nat} (hk : k < bs.length) : hasB bs p (k + 1) = (hasB bs p k || decide (bs[k] = p)) := by
  unfold hasB
  rw [List.take_succ_eq_append_getElem hk, List.any_append]
  simp
theorem hasB_all (bs : List (Nat × Nat)) (p : Nat × Nat) : hasB bs p bs.length = decide (p ∈ bs) := by
  unfold hasB
  rw [List.take_length, Bool.eq_iff_iff, List.any_eq_true, decide_eq_true_iff]
  exact ⟨fun ⟨x, hx, h⟩ => of_decide_eq_true h ▸ hx, fun h => ⟨p, h, by simp⟩⟩
theorem BlkOK.has {f : Mk} {L l : List E} {now : Nat} {bs : List (Nat × Nat)} (h : Inv L l now) (hb : BlkOK f L bs) (a n : Nat) : hasB bs (a, n) bs.length = (anyB L (fun _ => true) a n 8 && !anyB L (feasE f) a n 8) := by
  rw [hasB_all, ← blk_any h, Bool.eq_iff_iff, decide_eq_true_iff]
  exact hb.mem (a, n)
/-- Prefixes in a slice of one's own, read. -/
theorem GOwn.ps {w : World} {B : Nat} {v : Value} {bs : List (Nat × Nat)} (h : GOwn 39 2 clP w B v bs) : ∃ A c, v = .slice A bs.length c ∧ (0 < bs.length → ∃ b cur, A = some ⟨b, 0, none⟩ ∧ B ≤ b ∧ w.heap[b]? = some (.cells cur 39 (0, 0)) ∧ ∀ j (hj : j < bs.length), w.cell? ⟨b, j * 2, none⟩ = some (.int .u32 (bs[j].1 : Int)) ∧ w.cell? ⟨b, j * 2 + 1, none⟩ = some (.int .u8 (bs[j].2 : Int))) := by
  obtain ⟨A, c, hv, -, hc⟩ := h.form (fun _ => rfl)
  refine ⟨A, c, hv, fun h0 => ?_⟩
  obtain ⟨b, hA, hB, hb, -⟩ := hc 0 h0
  subst hA
  have hob : v.ownBlock = some b := by rw [hv]; rfl
  obtain ⟨-, cur, hcur⟩ := h.lt hob
  refine ⟨b, cur, rfl, hB, hcur, fun j hj => ?_⟩
  obtain ⟨b', hA', -, -, hcell⟩ := hc j hj
  injection hA' with hA'; injection hA' with hA' _ _
  subst hA'
  exact ⟨hcell 0 (by decide), hcell 1 (by decide)⟩
end Go.Proofs.Ytkbhmdoichiinaa.Rts
