/- A trie and a list that hold the same routes. -/
import Derived.Test.YtfhpcpanjonpeaaTy
import Derived.Maps.AppendAt
namespace Go.Proofs.Ytfhpcpanjonpeaa.Tri
open Pre
open Go.ChangeShapes Go.WideShapes Go.ChangeAt Go.RowKit

theorem len_le_of {l1 l2 : List R} (h : l1.Pairwise fun x y => x ≠ y) (hs : ∀ y ∈ l1, y ∈ l2) : l1.length ≤ l2.length := by
  induction l1 generalizing l2 with
  | nil => exact Nat.zero_le _
  | cons x xs ih =>
    rw [List.pairwise_cons] at h
    obtain ⟨s, t, e⟩ := List.append_of_mem (hs x (by simp))
    have := ih (l2 := s ++ t) h.2 fun y hy => by
      have hm := hs y (by simp [hy])
      rw [e] at hm
      rcases List.mem_append.1 hm with m | m
      · exact List.mem_append.2 (.inl m)
      · rcases List.mem_cons.1 m with m | m
        · exact absurd m.symm (h.1 y hy)
        · exact List.mem_append.2 (.inr m)
    rw [e]
    simp at this ⊢
    omega
/-- No two of a prefix. -/
def Uniq (ls : List R) : Prop := ls.Pairwise fun x y => ¬(x.a = y.a ∧ x.n = y.n)
theorem Uniq.ne {ls : List R} (h : Uniq ls) : ls.Pairwise fun x y => x ≠ y := h.imp fun hn e => hn (by rw [e]; exact ⟨rfl, rfl⟩)
theorem Uniq.same {ls : List R} (h : Uniq ls) {i j : Nat} (hi : i < ls.length) (hj : j < ls.length) (e : ls[i].a = ls[j].a ∧ ls[i].n = ls[j].n) : i = j := by
  have hp := List.pairwise_iff_getElem.1 h
  rcases Nat.lt_trichotomy i j with h1 | h1 | h1
  · exact absurd e (hp i j hi hj h1)
  · exact h1
  · exact absurd ⟨e.1.symm, e.2.symm⟩ (hp j i hj hi h1)
theorem list_ne {t : T} (h : t.WF) : t.list.Pairwise fun x y => x ≠ y := (list_rises h).imp fun hl e => by subst e; unfold Lt at hl; omega
theorem same_len {t : T} {ls : List R} (h : t.WF) (hu : Uniq ls) (hs : ∀ y, t.Mem y ↔ y ∈ ls) : t.list.length = ls.length :=
  Nat.le_antisymm (len_le_of (list_ne h) fun y hy => (hs y).1 (list_mem.1 hy)) (len_le_of hu.ne fun y hy => list_mem.2 ((hs y).2 hy))
theorem mem_same {t : T} (h : t.WF) {y z : R} (hy : t.Mem y) (hz : t.Mem z) (e : y.a = z.a ∧ y.n = z.n) : y = z := by
  have h1 := (get_iff z.a z.n h y).2 ⟨hy, e⟩
  have h2 := (get_iff z.a z.n h z).2 ⟨hz, rfl, rfl⟩
  rw [h1] at h2
  injection h2
/-- The same routes. -/
structure Sm (t : T) (ls : List R) : Prop where
  wf : t.WF
  eq : ∀ y, t.Mem y ↔ y ∈ ls
  un : Uniq ls
theorem Sm.nil : Sm .nil [] := ⟨trivial, fun y => by simp [T.Mem], List.Pairwise.nil⟩
theorem Sm.set {t : T} {ls : List R} {r : R} {j : Nat} (h : Sm t ls) (hr : r.Ok) (hj : j < ls.length) (e : ls[j].a = r.a ∧ ls[j].n = r.n) : Sm (t.put r).1 (ls.set j r) := by
  refine ⟨put_wf h.wf hr, fun y => ?_, ?_⟩
  · rw [put_mem h.wf hr y, h.eq]
    constructor
    · rintro (rfl | ⟨m, ne⟩)
      · exact List.mem_set hj _
      · obtain ⟨i, hi, rfl⟩ := List.getElem_of_mem m
        have hij : i ≠ j := fun e' => by subst e'; exact ne e
        exact List.mem_iff_getElem.2 ⟨i, by simpa using hi, by rw [List.getElem_set_ne (by omega)]⟩
    · intro m
      obtain ⟨i, hi, hy⟩ := List.mem_iff_getElem.1 m
      have hi' : i < ls.length := by simpa using hi
      by_cases hij : i = j
      · subst hij
        rw [List.getElem_set_self] at hy
        exact .inl hy.symm
      · rw [List.getElem_set_ne (by omega)] at hy
        subst hy
        exact .inr ⟨List.getElem_mem _, fun e' => hij (h.un.same hi' hj ⟨e'.1.trans e.1.symm, e'.2.trans e.2.symm⟩)⟩
  · refine List.pairwise_iff_getElem.2 fun i k hi hk hik => ?_
    have hi' : i < ls.length := by simpa using hi
    have hk' : k < ls.length := by simpa using hk
    have hp := List.pairwise_iff_getElem.1 h.un i k hi' hk' hik
    by_cases hij : i = j
    · subst hij
      rw [List.getElem_set_self, List.getElem_set_ne (by omega)]
      exact fun e' => hp ⟨e.1.trans e'.1, e.2.trans e'.2⟩
    · by_cases hkj : k = j
      · subst hkj
        rw [List.getElem_set_self, List.getElem_set_ne (by omega)]
        exact fun e' => hp ⟨e'.1.trans e.1.symm, e'.2.trans e.2.symm⟩
      · rw [List.getElem_set_ne (by omega), List.getElem_set_ne (by omega)]
        exact hp
theorem Sm.app {t : T} {ls : List R} {r : R} (h : Sm t ls) (hr : r.Ok) (hn : ∀ y ∈ ls, ¬(y.a = r.a ∧ y.n = r.n)) : Sm (t.put r).1 (ls ++ [r]) := by
  refine ⟨put_wf h.wf hr, fun y => ?_, ?_⟩
  · rw [put_mem h.wf hr y, h.eq, List.mem_append, List.mem_singleton]
    exact ⟨fun e => e.elim .inr fun e => .inl e.1, fun e => e.elim (fun m => .inr ⟨m, hn y m⟩) .inl⟩
  · refine List.pairwise_append.2 ⟨h.un, by simp, fun y hy z hz => ?_⟩
    rw [List.mem_singleton.1 hz]
    exact hn y hy
theorem findI_spec (rs : List R) (b m : Nat) : (findI rs b m = -1 ∧ ∀ r ∈ rs, ¬(r.a = b ∧ r.n = m)) ∨ ∃ j : Nat, ∃ hj : j < rs.length, findI rs b m = (j : Nat) ∧ rs[j].a = b ∧ rs[j].n = m := by
  induction rs with
  | nil => exact .inl ⟨rfl, fun r h => by cases h⟩
  | cons r rs ih =>
    unfold findI
    by_cases he : r.a = b ∧ r.n = m
    · rw [if_pos he]
      exact .inr ⟨0, by simp, rfl, he⟩
    · rw [if_neg he]
      rcases ih with ⟨h1, h2⟩ | ⟨j, hj, h1, h2⟩
      · rw [h1]
        exact .inl ⟨rfl, fun r' hr => by rcases List.mem_cons.1 hr with rfl | hr; exact he; exact h2 r' hr⟩
      · rw [h1, if_neg (by omega)]
        exact .inr ⟨j + 1, by simpa using hj, by omega, by simpa using h2⟩
/-- More than the list's, and whose prefixes. -/
structure Mo (t : T) (ls : List R) (P : Nat → Nat → Prop) : Prop where
  wf : t.WF
  all : ∀ y ∈ ls, t.Mem y
  mo : ∀ y, t.Mem y → y ∈ ls ∨ P y.a y.n
theorem Mo.put {t : T} {ls : List R} {P Q : Nat → Nat → Prop} {r : R} (h : Mo t ls P) (hr : r.Ok) (hn : ∀ y ∈ ls, ¬(y.a = r.a ∧ y.n = r.n)) (h1 : Q r.a r.n) (h2 : ∀ a n, P a n → Q a n) : Mo (t.put r).1 ls Q := by
  refine ⟨put_wf h.wf hr, fun y hy => (put_mem h.wf hr y).2 (.inr ⟨h.all y hy, hn y hy⟩), fun y hy => ?_⟩
  rcases (put_mem h.wf hr y).1 hy with rfl | ⟨m, _⟩
  · exact .inr h1
  · exact (h.mo y m).imp id (h2 _ _)
theorem Mo.imp {t : T} {ls : List R} {P Q : Nat → Nat → Prop} (h : Mo t ls P) (h2 : ∀ a n, P a n → Q a n) : Mo t ls Q := ⟨h.wf, h.all, fun y hy => (h.mo y hy).imp id (h2 _ _)⟩
theorem Mo.drop {t : T} {ls : List R} {P Q : Nat → Nat → Prop} (h : Mo t ls P) (b m : Nat) (hn : ∀ y ∈ ls, ¬(y.a = b ∧ y.n = m)) (h2 : ∀ a n, P a n → ¬(a = b ∧ n = m) → Q a n) : Mo (t.drop b m).1 ls Q := by
  refine ⟨drop_wf b m h.wf, fun y hy => (drop_mem b m h.wf y).2 ⟨h.all y hy, hn y hy⟩, fun y hy => ?_⟩
  obtain ⟨hm, ne⟩ := (drop_mem b m h.wf y).1 hy
  exact (h.mo y hm).imp id fun p => h2 _ _ p ne
theorem Mo.skip {t : T} {ls : List R} {P Q : Nat → Nat → Prop} (h : Mo t ls P) {z : R} (hz : z ∈ ls) (h2 : ∀ a n, P a n → ¬(a = z.a ∧ n = z.n) → Q a n) : Mo t ls Q := by
  refine ⟨h.wf, h.all, fun y hy => ?_⟩
  by_cases e : y.a = z.a ∧ y.n = z.n
  · exact .inl (by rw [mem_same h.wf hy (h.all z hz) e]; exact hz)
  · exact (h.mo y hy).imp id fun p => h2 _ _ p e
/-- The longest of the same routes is the same one. -/
theorem long_same {t : T} {ls : List R} {b : Nat} {o : Option R} (h : Sm t ls) (hl : LongL ls b o) : t.look b none = o := by
  have hk := look_longest b h.wf none
  rcases hl with ⟨rfl, hn⟩ | ⟨y, rfl, hy, ha, hm⟩
  · rcases hk with ⟨_, e⟩ | ⟨z, _, hz, hza, _⟩
    · exact e
    · exact absurd hza (hn z ((h.eq z).1 hz))
  · rcases hk with ⟨e, _⟩ | ⟨z, e, hz, hza, hzm⟩
    · exact absurd ha (e y ((h.eq y).2 hy))
    · have h1 := hm z ((h.eq z).1 hz) hza
      have h2 := hzm y ((h.eq y).2 hy) ha
      have hn : z.n = y.n := by omega
      have oz := (mem_ok h.wf hz).2.2
      have oy := (mem_ok h.wf ((h.eq y).2 hy)).2.2
      rw [hn] at oz hza
      rw [e, mem_same h.wf hz ((h.eq y).2 hy) ⟨right_same oz oy (alike_trans hza (alike_symm ha)), hn⟩]
theorem RtOwn.grewk {w w' : World} {B : Nat} {v : Value} {rs : List R} {bs : List Nat} (h : RtOwn w B v rs) (G : Grew w w' bs) (hd : ∀ b ∈ bs, v.ownBlock ≠ some b) : RtOwn w' B v rs := by
  refine ⟨h.1, h.2.imp id fun ⟨g, cap, cur, hv, hB, hg, rest⟩ => ⟨g, cap, cur, hv, hB, ?_, rest⟩⟩
  exact (G.block g (Array.getElem?_eq_some_iff.1 hg).1 fun hm => hd g hm (by rw [hv]; rfl)).trans hg
/-- A trie and a list in memory. -/
structure UA (wz wr : World) (g : Nat) (v : Value) (t : T) (ls : List R) (bs : List Nat) : Prop where
  be : Below wz.heap.size wz wr
  tr : TrAt wr g t t.list.length bs
  hb : ∀ b ∈ g :: bs, wz.heap.size ≤ b
  ow : RtOwn wr wz.heap.size v ls
  dj : ∀ b ∈ g :: bs, v.ownBlock ≠ some b
  ti : t.Tight
theorem UA.below {wz wr w' : World} {g : Nat} {v : Value} {t : T} {ls : List R} {bs : List Nat} (h : UA wz wr g v t ls bs) (B : Below wr.heap.size wr w') : UA wz w' g v t ls bs :=
  ⟨h.be.trans (B.mono h.be.size), h.tr.below B, h.hb, h.ow.kept B, h.dj, h.ti⟩
theorem UA.put {wz wr w' : World} {g : Nat} {v : Value} {t : T} {ls : List R} {bs bs' : List Nat} {r : R} (h : UA wz wr g v t ls bs) (T2 : TrAt w' g (t.put r).1 (if (t.put r).2 then t.list.length + 1 else t.list.length) bs') (fr : ∀ b ∈ bs', b ∈ bs ∨ wr.heap.size ≤ b) (G : Grew wr w' (g :: bs)) : UA wz w' g v (t.put r).1 ls bs' := by
  have hs := h.be.size
  rw [← put_len] at T2
  refine ⟨grew_to h.be G h.hb hs, T2, fun b hb => ?_, h.ow.grewk G h.dj, fun b hb e => ?_, put_tight t r h.ti⟩
  · rcases List.mem_cons.1 hb with rfl | hb
    · exact h.hb b (by simp)
    · rcases fr b hb with m | m
      · exact h.hb b (by simp [m])
      · omega
  · have hlt := (World.ownsRow.lt h.ow b e).2
    rcases List.mem_cons.1 hb with rfl | hb
    · exact h.dj b (by simp) e
    · rcases fr b hb with m | m
      · exact h.dj b (by simp [m]) e
      · omega
theorem UA.drop {wz wr w' : World} {g b m : Nat} {v : Value} {t : T} {ls : List R} {bs bs' : List Nat} (h : UA wz wr g v t ls bs) (hw : (t.drop b m).2 = true) (T2 : TrAt w' g (t.drop b m).1 (t.list.length - 1) bs') (fr : ∀ b ∈ bs', b ∈ bs) (G : Grew wr w' (g :: bs)) : UA wz w' g v (t.drop b m).1 ls bs' := by
  have hs := h.be.size
  have hl := drop_len t b m hw
  rw [show t.list.length - 1 = (t.drop b m).1.list.length by omega] at T2
  refine ⟨grew_to h.be G h.hb hs, T2, fun b hb => ?_, h.ow.grewk G h.dj, fun b hb e => ?_, drop_tight t b m h.ti⟩
  · rcases List.mem_cons.1 hb with rfl | hb
    · exact h.hb b (by simp)
    · exact h.hb b (by simp [fr b hb])
  · rcases List.mem_cons.1 hb with rfl | hb
    · exact h.dj b (by simp) e
    · exact h.dj b (by simp [fr b hb]) e
theorem UA.not {wz wr w' : World} {g : Nat} {v : Value} {t : T} {ls : List R} {bs : List Nat} (h : UA wz wr g v t ls bs) (T2 : TrAt w' g t t.list.length bs) (G : Grew wr w' (g :: bs)) : UA wz w' g v t ls bs :=
  ⟨grew_to h.be G h.hb h.be.size, T2, h.hb, h.ow.grewk G h.dj, h.dj, h.ti⟩
/-- The list was appended to. -/
theorem UA.app {wz wr w' : World} {g : Nat} {v v' : Value} {t : T} {ls ls' : List R} {bs : List Nat} (h : UA wz wr g v t ls bs) (O : RtOwn w' wz.heap.size v' ls') (G : wr.grownBy w' v.ownBlock) (hat : v'.ownBlock = v.ownBlock ∨ v'.ownBlock = some wr.heap.size) : UA wz w' g v' t ls' bs := by
  refine ⟨h.be.grown G h.be.size fun k e => (World.ownsRow.lt h.ow k e).1, h.tr.keep fun b hb => G.block b (h.tr.ins b hb) fun e => h.dj b hb e.symm, h.hb, O, fun b hb e => ?_, h.ti⟩
  rcases hat with hat | hat
  · rw [hat] at e; exact h.dj b hb e
  · rw [hat] at e; injection e with e; have := h.tr.ins b hb; omega
/-- One of the list was written over. -/
theorem UA.put1 {wz wr : World} {g gl n cap k : Nat} {t : T} {ls : List R} {bs : List Nat} (h : UA wz wr g (.slice (some ⟨gl, 0, none⟩) n cap) t ls bs) (hk : k < ls.length) (r : R) :
    UA wz (((((wr.setCell ⟨gl, k * 5, none⟩ (.int .u32 (r.a : Int))).setCell ⟨gl, k * 5 + 1, none⟩ (.int .u8 (r.n : Int))).setCell ⟨gl, k * 5 + 2, none⟩ (.int .i64 r.via)).setCell ⟨gl, k * 5 + 3, none⟩ (.int .u16 r.mt)).setCell ⟨gl, k * 5 + 4, none⟩ (.int .u16 r.sq)) g (.slice (some ⟨gl, 0, none⟩) n cap) t (ls.set k r) bs := by
  have hge := (World.ownsRow.lt h.ow gl rfl).1
  have B := (((((Below.refl gl wr).setCell (p := ⟨gl, k * 5, none⟩) (Nat.le_refl _) (.int .u32 (r.a : Int))).setCell (p := ⟨gl, k * 5 + 1, none⟩) (Nat.le_refl _) (.int .u8 (r.n : Int))).setCell (p := ⟨gl, k * 5 + 2, none⟩) (Nat.le_refl _) (.int .i64 r.via)).setCell (p := ⟨gl, k * 5 + 3, none⟩) (Nat.le_refl _) (.int .u16 r.mt)).setCell (p := ⟨gl, k * 5 + 4, none⟩) (Nat.le_refl _) (.int .u16 r.sq)
  refine ⟨h.be.trans (B.mono hge), h.tr.keep fun b hb => ?_, h.hb, h.ow.set hk r, h.dj, h.ti⟩
  have hbg : b ≠ gl := fun e => by subst e; exact h.dj b hb rfl
  repeat rw [Below.heap_setCell _ ⟨gl, _, none⟩ _ b hbg]
end Go.Proofs.Ytfhpcpanjonpeaa.Tri
