/- The shelf and the document's own one tell the same, act by act. Nothing of the program. -/
import Derived.Test.YtkalgonkaoiapaaRgd
namespace Go.Proofs.Ytkalgonkaoiapaa.Shf
open Go.ChangeShapes Go.WideShapes Go.ChangeAt Go.RowKit

/-- Names with blocks in the place of files. -/
def bl (f : Nat → Nat) (l : List (S × Nat)) : List (S × Nat) := l.map fun p => (p.1, f p.2)
theorem get_bl (f : Nat → Nat) (l : List (S × Nat)) (s : S) : get (bl f l) s = (get l s).map f := by
  induction l with
  | nil => rfl
  | cons p l ih =>
    obtain ⟨k, b⟩ := p
    have e : bl f ((k, b) :: l) = (k, f b) :: bl f l := rfl
    rw [e]
    by_cases h : k = s
    · simp [get, h]
    · simp [get, h, ih]
theorem bl_wo (f : Nat → Nat) (l : List (S × Nat)) (s : S) : bl f (wo l s) = wo (bl f l) s := by
  induction l with
  | nil => rfl
  | cons p l ih =>
    obtain ⟨k, b⟩ := p
    unfold wo bl at ih ⊢
    by_cases h : k = s
    · simpa [h] using ih
    · simpa [h] using ih
theorem bl_wi (f : Nat → Nat) (l : List (S × Nat)) (s : S) (i : Nat) : bl f (wi l s i) = wi (bl f l) s (f i) := by
  unfold wi
  rw [← bl_wo]
  simp [bl]
theorem bl_congr {f g : Nat → Nat} {l : List (S × Nat)} (h : ∀ p ∈ l, f p.2 = g p.2) : bl f l = bl g l :=
  List.map_congr_left fun p hp => by rw [h p hp]
/-- They tell the same: f has the block of each file. -/
structure Sim (T : Nat → Tag) (m : M) (x : X) (f : Nat → Nat) : Prop where
  inj : ∀ i j, i < x.L.length → j < x.L.length → f i = f j → i = j
  tag : ∀ i, i < x.L.length → T (f i) = .file
  now : m.now = bl f x.now
  len : x.was.length = m.moves.length + 1
  was : ∀ k, k ≤ m.moves.length → ages m.safe (m.moves.take k) = bl f (x.was.getD k [])
  fl : ∀ i, i < x.L.length → (m.fl (f i)).1 = (x.L.getD i ([], 0)).1
  room : m.room = x.room
  done : (m.done : Int) = x.done
  live : Live m
  left : x.left = -1
  off : x.off = false
  eq : m.now = ages m.safe m.moves
theorem Sim.stop {T : Nat → Tag} {m : M} {x : X} {f : Nat → Nat} (h : Sim T m x f) : ¬ x.stop := by
  unfold X.stop
  rw [h.off, h.left]
  simp
theorem Sim.act {T : Nat → Tag} {m : M} {x : X} {f : Nat → Nat} (h : Sim T m x f) : Sim T m.act x.act f := by
  rw [(h.live.act).1]
  unfold X.act
  rw [if_neg h.stop]
  exact ⟨h.inj, h.tag, h.now, h.len, h.was, h.fl, h.room, by show ((m.done + 1 : Nat) : Int) = x.done + 1; have := h.done; omega, h.live, by show (if 0 < x.left then x.left - 1 else x.left) = -1; rw [h.left]; rfl, h.off, h.eq⟩
theorem Sim.lose {T : Nat → Tag} {m : M} {x : X} {f : Nat → Nat} (h : Sim T m x f) (s : S) : Sim T (m.lose s) x f := by
  unfold M.lose
  split
  · exact h
  · exact ⟨h.inj, h.tag, h.now, h.len, h.was, h.fl, h.room, h.done, h.live, h.left, h.off, h.eq⟩
theorem Sim.move {T : Nat → Tag} {m : M} {x : X} {f : Nat → Nat} (h : Sim T m x f) (v : Mv) (l : List (S × Nat)) (hv : v.on m.now = bl f l) : Sim T (m.mv v) { x with now := l, was := x.was ++ [l] } f := by
  have e : ages m.safe (m.moves ++ [v]) = v.on m.now := by rw [ages_snoc, ← h.eq]
  refine ⟨h.inj, h.tag, hv, ?_, fun k hk => ?_, h.fl, h.room, h.done, h.live, h.left, h.off, e.symm⟩
  · show (x.was ++ [l]).length = (m.moves ++ [v]).length + 1
    have := h.len
    simp only [List.length_append, List.length_cons, List.length_nil]
    omega
  · have hk : k ≤ (m.moves ++ [v]).length := hk
    show ages m.safe ((m.moves ++ [v]).take k) = bl f ((x.was ++ [l]).getD k [])
    rw [List.length_append, List.length_singleton] at hk
    have hl := h.len
    rcases Nat.lt_or_ge m.moves.length k with h' | h'
    · obtain rfl : k = m.moves.length + 1 := by omega
      rw [List.take_of_length_le (by simp), e, hv, List.getD_eq_getElem?_getD, List.getElem?_append_right (by omega), hl, Nat.sub_self]
      rfl
    · rw [List.take_append_of_le_length h', h.was k h', List.getD_eq_getElem?_getD, List.getD_eq_getElem?_getD, List.getElem?_append_left (by omega)]
theorem Sim.change {T : Nat → Tag} {m : M} {x : X} {f : Nat → Nat} (h : Sim T m x f) (i : Nat) (hi : i < x.L.length) (y : S × Nat) (q : S × Int) (e : y.1 = q.1) (nd : Nat) : Sim T { m with fl := fun c => if c = f i then y else m.fl c, named := nd } { x with L := x.L.set i q } f := by
  have hl : (x.L.set i q).length = x.L.length := List.length_set
  refine ⟨fun a b ha hb => h.inj a b (by rw [← hl]; exact ha) (by rw [← hl]; exact hb), fun a ha => h.tag a (by rw [← hl]; exact ha), h.now, h.len, h.was, fun j hj => ?_, h.room, h.done, h.live, h.left, h.off, h.eq⟩
  have hj : j < x.L.length := by rw [← hl]; exact hj
  show (if f j = f i then y else m.fl (f j)).1 = ((x.L.set i q).getD j ([], 0)).1
  rw [List.getD_eq_getElem?_getD]
  by_cases hji : j = i
  · subst hji
    rw [if_pos rfl, e, List.getElem?_set_self hi]
    rfl
  · rw [if_neg (fun hh => hji (h.inj j i hj hi hh)), h.fl j hj, List.getElem?_set_ne (fun hh => hji hh.symm), List.getD_eq_getElem?_getD]
theorem Sim.got {T : Nat → Tag} {m : M} {x : X} {f : Nat → Nat} (h : Sim T m x f) (s : S) : get m.now s = (get x.now s).map f := by rw [h.now, get_bl]
theorem Sim.onF {T : Nat → Tag} {m : M} {x : X} {f : Nat → Nat} (h : Sim T m x f) (s : S) : m.onF s = (get x.now s).map f := by
  unfold M.onF
  rw [if_neg (by have := (h.live.act).2; omega), h.got]
/-- What is used of both is one. -/
theorem usedT_sum {m : M} {x : X} {f : Nat → Nat} (hf : ∀ i, i < x.L.length → (m.fl (f i)).1 = (x.L.getD i ([], 0)).1) : ∀ i, i ≤ x.L.length → usedT x.L x.was i = sumf m.fl (((List.range i).filter (hasW x.was)).map f) := by
  intro i
  induction i with
  | zero => intro _; rfl
  | succ i ih =>
    intro hi
    unfold usedT
    rw [ih (by omega), List.range_succ, List.filter_append, List.map_append, sumf_app]
    congr 1
    by_cases hw : hasW x.was i = true
    · rw [if_pos hw]
      simp [hw, sumf, hf i (by omega)]
    · rw [if_neg hw]
      simp [hw, sumf]
theorem hasW_iff {ll : List (List (S × Nat))} {i : Nat} : hasW ll i = true ↔ ∃ l ∈ ll, ∃ p ∈ l, p.2 = i := by
  unfold hasW hasL
  simp [List.any_eq_true]
theorem Sim.used {T : Nat → Tag} {m : M} {x : X} {f : Nat → Nat} (h : Sim T m x f) (F : Fine m) (G : x.Good) : m.named + m.gone = x.used := by
  obtain ⟨lost, Lo⟩ := F.lost
  unfold X.used
  rw [usedT_sum h.fl _ (Nat.le_refl _), F.named, Lo.sum, tot_files, ← sumf_app]
  have hgood : Good m.now := by
    have := F.good m.moves.length (Nat.le_refl _)
    rw [List.take_length, ← F.now] at this
    exact this
  have hn1 : (files m.now ++ lost).Nodup := by
    rw [List.nodup_append]
    exact ⟨hgood.files, Lo.nd, fun a ha b hb e => by subst e; exact Lo.out a hb ha⟩
  have hn2 : (((List.range x.L.length).filter (hasW x.was)).map f).Nodup := by
    rw [List.nodup_iff_pairwise_ne, List.pairwise_map]
    have hp : (((List.range x.L.length).filter (hasW x.was))).Pairwise (fun a b => a ≠ b) := (List.nodup_iff_pairwise_ne.1 (List.nodup_range)).sublist List.filter_sublist
    refine hp.imp_of_mem ?_
    intro a b ha hb hne e
    have ha := List.mem_range.1 (List.mem_filter.1 ha).1
    have hb := List.mem_range.1 (List.mem_filter.1 hb).1
    exact hne (h.inj a b ha hb e)
  have hwas : ∀ k, k ≤ m.moves.length → ∀ b ∈ files (ages m.safe (m.moves.take k)), b ∈ (((List.range x.L.length).filter (hasW x.was)).map f) := fun k hk b hb => by
    rw [h.was k hk] at hb
    obtain ⟨s, hb⟩ := mem_files.1 hb
    obtain ⟨p, hp, e⟩ := List.mem_map.1 hb
    injection e with e1 e2
    have hkl : k < x.was.length := by have := h.len; omega
    have hm : x.was.getD k [] ∈ x.was := by
      rw [List.getD_eq_getElem?_getD, List.getElem?_eq_getElem hkl]
      exact List.getElem_mem hkl
    exact List.mem_map.2 ⟨p.2, List.mem_filter.2 ⟨List.mem_range.2 (G.was _ hm p hp), hasW_iff.2 ⟨_, hm, p, hp, rfl⟩⟩, e2⟩
  have h12 : ∀ b ∈ files m.now ++ lost, b ∈ (((List.range x.L.length).filter (hasW x.was)).map f) := fun b hb => by
    rcases List.mem_append.1 hb with hb | hb
    · refine hwas m.moves.length (Nat.le_refl _) b ?_
      rw [List.take_length, ← F.now]
      exact hb
    · obtain ⟨k, hk, hb⟩ := Lo.some b hb
      exact hwas k hk b hb
  have h21 : ∀ b ∈ (((List.range x.L.length).filter (hasW x.was)).map f), b ∈ files m.now ++ lost := fun b hb => by
    obtain ⟨i, hi, rfl⟩ := List.mem_map.1 hb
    obtain ⟨l, hl, p, hp, rfl⟩ := hasW_iff.1 (List.mem_filter.1 hi).2
    obtain ⟨k, hk, rfl⟩ := List.mem_iff_getElem.1 hl
    have hk' : k ≤ m.moves.length := by have := h.len; omega
    have e : x.was.getD k [] = x.was[k] := by rw [List.getD_eq_getElem?_getD, List.getElem?_eq_getElem hk]; rfl
    have hw := h.was k hk'
    rw [e] at hw
    exact List.mem_append.2 (Lo.all k hk' _ (mem_files.2 ⟨p.1, by rw [hw]; exact List.mem_map.2 ⟨p, hp, rfl⟩⟩))
  exact Nat.le_antisymm (sumf_le _ hn1 h12) (sumf_le _ hn2 h21)
theorem Sim.retag {T T' : Nat → Tag} {m : M} {x : X} {f : Nat → Nat} (h : Sim T m x f) (hT : ∀ b, T b = .file → T' b = .file) : Sim T' m x f :=
  ⟨h.inj, fun i hi => hT _ (h.tag i hi), h.now, h.len, h.was, h.fl, h.room, h.done, h.live, h.left, h.off, h.eq⟩
/-- A new file. -/
theorem Sim.fresh {T T' : Nat → Tag} {m : M} {x : X} {f : Nat → Nat} (h : Sim T m x f) (G : x.Good) (b : Nat) (hb : T b = .none) (hT : ∀ c, T c = .file → T' c = .file) (hb' : T' b = .file) :
    Sim T' (m.file b ([], 0)) { x with L := x.L ++ [([], 0)] } (fun i => if i = x.L.length then b else f i) := by
  have hne : ∀ i, i < x.L.length → f i ≠ b := fun i hi e => by
    have := h.tag i hi
    rw [e, hb] at this
    cases this
  have hg : ∀ l : List (S × Nat), (∀ p ∈ l, p.2 < x.L.length) → bl (fun i => if i = x.L.length then b else f i) l = bl f l := fun l hl =>
    bl_congr fun p hp => by
      have := hl p hp
      show (if p.2 = x.L.length then b else f p.2) = f p.2
      rw [if_neg (by omega)]
  have hl : (x.L ++ [(([] : S), (0 : Int))]).length = x.L.length + 1 := by simp
  refine ⟨?_, ?_, ?_, h.len, ?_, ?_, h.room, h.done, h.live, h.left, h.off, h.eq⟩
  · intro i j hi hj e
    have hi : i < x.L.length + 1 := by rw [← hl]; exact hi
    have hj : j < x.L.length + 1 := by rw [← hl]; exact hj
    have e : (if i = x.L.length then b else f i) = (if j = x.L.length then b else f j) := e
    by_cases h1 : i = x.L.length
    · by_cases h2 : j = x.L.length
      · omega
      · rw [if_pos h1, if_neg h2] at e
        exact absurd e.symm (hne j (by omega))
    · by_cases h2 : j = x.L.length
      · rw [if_neg h1, if_pos h2] at e
        exact absurd e (hne i (by omega))
      · rw [if_neg h1, if_neg h2] at e
        exact h.inj i j (by omega) (by omega) e
  · intro i hi
    have hi : i < x.L.length + 1 := by rw [← hl]; exact hi
    show T' (if i = x.L.length then b else f i) = .file
    split
    · exact hb'
    · exact hT _ (h.tag i (by omega))
  · show m.now = _
    rw [hg _ G.now]
    exact h.now
  · intro k hk
    have hk : k ≤ m.moves.length := hk
    show ages m.safe (m.moves.take k) = bl _ (x.was.getD k [])
    rw [h.was k hk, hg]
    intro p hp
    refine G.was (x.was.getD k []) ?_ p hp
    have hkl : k < x.was.length := by have := h.len; omega
    rw [List.getD_eq_getElem?_getD, List.getElem?_eq_getElem hkl]
    exact List.getElem_mem hkl
  · intro i hi
    have hi : i < x.L.length + 1 := by rw [← hl]; exact hi
    show (if (if i = x.L.length then b else f i) = b then (([] : S), 0) else m.fl (if i = x.L.length then b else f i)).1 = ((x.L ++ [(([] : S), (0 : Int))]).getD i ([], 0)).1
    by_cases h1 : i = x.L.length
    · rw [if_pos h1, if_pos rfl, h1, List.getD_eq_getElem?_getD, List.getElem?_append_right (Nat.le_refl _), Nat.sub_self]
      rfl
    · rw [if_neg h1, if_neg (hne i (by omega)), h.fl i (by omega), List.getD_eq_getElem?_getD, List.getD_eq_getElem?_getD, List.getElem?_append_left (by omega)]
theorem fine_ne {m : M} (F : Fine m) : ∀ p ∈ m.now, p.1 ≠ [] := by
  have := F.good m.moves.length (Nat.le_refl _)
  rw [List.take_length, ← F.now] at this
  exact this.ne
theorem DoM.sim {T T' : Nat → Tag} {m m' : M} {K A B : Nat} {N : Int} {r : S} {x : X} {f : Nat → Nat} (hD : DoM T m K A B N r m') (hk : K % 12 < 9) (h : Sim T m x f) (F : Fine m) (G : x.Good) (hT : ∀ b, T b = .file → T' b = .file) (hN : ∀ p ∈ m'.now, T' p.2 = .file) :
    ∃ f', Sim T' m' (doX x K A B N r) f' := by
  have ha := h.act
  obtain ⟨e1, e2, e3⟩ := x.act_same
  have hne7 : ¬ m.actE = 7 := by have := (h.live.act).2; omega
  obtain ⟨g1, g2, g3, g4, g5, g6, g7⟩ := act_now m
  rcases hD with ⟨hK, c, hc, rfl⟩ | ⟨hK, rfl⟩ | ⟨hK, rfl⟩ | ⟨hK, rfl⟩ | ⟨hK, rfl⟩ | ⟨hK, rfl⟩ | ⟨hK, rfl⟩ | ⟨hK, _⟩ | ⟨hK, _⟩ | ⟨hK, _⟩
  · have e : doX x K A B N r = (x.create (nameOf A)).1 := by unfold doX; rcases hK with hK | hK <;> rw [hK] <;> rfl
    rw [e]
    clear e
    revert hN
    unfold M.create X.create
    by_cases hn : nameOk (nameOf A) = false
    · rw [if_pos hn, if_neg (by rw [hn]; simp)]
      exact fun _ => ⟨f, h.retag hT⟩
    · rw [if_neg hn, if_neg hne7, if_pos (show nameOk (nameOf A) = true by simpa using hn), if_neg h.stop, h.got]
      cases hg : get x.now (nameOf A) with
      | some i => exact fun _ => ⟨f, ha.retag hT⟩
      | none =>
        intro hN
        have hb : T' c = .file := hN (nameOf A, c) (by
          show (nameOf A, c) ∈ wo (wo m.act.now []) (nameOf A) ++ [(nameOf A, c)]
          simp)
        have hGa : x.act.Good := ⟨by rw [e1, e2]; exact G.now, by rw [e1, e3]; exact G.was, by rw [e3]; exact G.some⟩
        have hf := ha.fresh hGa c hc hT hb
        have hm := hf.move ⟨[], nameOf A, some c⟩ (wi x.now (nameOf A) x.L.length) (by
          show wi (wo m.act.now []) (nameOf A) c = _
          rw [bl_wi, g1, wo_self (fine_ne F), h.now]
          congr 1
          · refine bl_congr fun p hp => ?_
            have := G.now p hp
            show f p.2 = if p.2 = x.act.L.length then c else f p.2
            rw [e1, if_neg (by omega)]
          · show c = if x.L.length = x.act.L.length then c else _
            rw [e1, if_pos rfl])
        refine ⟨fun i => if i = x.act.L.length then c else f i, ?_⟩
        simp only [e1, e3] at hm ⊢
        exact hm
  · have e : doX x K A B N r = (x.append (nameOf A) r).1 := by unfold doX; rcases hK with hK | hK <;> rw [hK] <;> rfl
    rw [e]
    clear e hN
    unfold M.append X.append
    rw [if_neg h.stop, h.onF]
    cases hg : get x.now (nameOf A) with
    | none => exact ⟨f, ha.retag hT⟩
    | some i =>
      have hi : i < x.L.length := G.now _ (got_mem hg)
      have hu := h.used F G
      have hr := h.room
      show ∃ f', Sim T' (if (m.named + m.gone + r.length : Int) > m.room then m.act else _) _ f'
      by_cases hb : x.room < (x.used : Int) + (r.length : Int)
      · rw [if_pos (by omega)]
        simp only [if_pos hb]
        exact ⟨f, ha.retag hT⟩
      · rw [if_neg (by omega)]
        simp only [if_neg hb]
        have hi' : i < x.act.L.length := by rw [e1]; exact hi
        have := (ha.change i hi' ((m.fl (f i)).1 ++ r, (m.fl (f i)).2) ((x.L.getD i ([], 0)).1 ++ r, (x.L.getD i ([], 0)).2) (by show _ ++ r = _ ++ r; rw [h.fl i hi]) (m.named + r.length)).retag hT
        rw [g4, e1] at this
        exact ⟨f, this⟩
  · rw [show doX x K A B N r = (x.sync (nameOf A)).1 by unfold doX; rw [hK]; rfl]
    clear hN
    unfold M.sync X.sync
    rw [if_neg h.stop, h.onF]
    cases hg : get x.now (nameOf A) with
    | none => exact ⟨f, ha.retag hT⟩
    | some i =>
      have hi : i < x.L.length := G.now _ (got_mem hg)
      have hi' : i < x.act.L.length := by rw [e1]; exact hi
      have := (ha.change i hi' ((m.fl (f i)).1, (m.fl (f i)).1.length) ((x.L.getD i ([], 0)).1, ((x.L.getD i ([], 0)).1.length : Int)) (h.fl i hi) m.act.named).retag hT
      rw [e1] at this
      exact ⟨f, this⟩
  · rw [show doX x K A B N r = (if x.stop then x.act else { x.act with was := [x.now] }) by unfold doX; rw [hK]; rfl]
    clear hN
    unfold M.names
    rw [if_neg hne7]
    simp only [if_neg h.stop]
    refine ⟨f, (Sim.retag (T := T) ⟨ha.inj, ha.tag, ha.now, rfl, fun k hk => ?_, ha.fl, ha.room, ha.done, ha.live, ha.left, ha.off, ?_⟩ hT)⟩
    · have hk : k ≤ 0 := hk
      obtain rfl : k = 0 := by omega
      show ages m.safe m.moves = bl f x.now
      rw [← h.eq, h.now]
    · show m.act.now = ages m.safe m.moves
      rw [g1, h.eq]
  · rw [show doX x K A B N r = (x.rename (nameOf A) (nameOf B)).1 by unfold doX; rw [hK]; rfl]
    clear hN
    unfold M.rename X.rename
    by_cases hn : nameOk (nameOf B) = false
    · rw [if_pos hn]
      simp only [if_neg (show ¬ nameOk (nameOf B) = true by rw [hn]; simp)]
      exact ⟨f, h.retag hT⟩
    · rw [if_neg hn, h.onF]
      simp only [if_pos (show nameOk (nameOf B) = true by simpa using hn), if_neg h.stop]
      cases hg : get x.now (nameOf A) with
      | none => exact ⟨f, ha.retag hT⟩
      | some i =>
        by_cases hab : nameOf A = nameOf B
        · simp only [if_pos hab, Option.map]
          exact ⟨f, ha.retag hT⟩
        · simp only [if_neg hab, Option.map]
          have lo : (m.act.lose (nameOf B)).now = m.now := by
            have e : (m.act.lose (nameOf B)).now = m.act.now := by unfold M.lose; split <;> rfl
            rw [e, g1]
          have hm := ((ha.lose (nameOf B)).move ⟨nameOf A, nameOf B, some (f i)⟩ (wi (wo x.now (nameOf A)) (nameOf B) i) (by
            rw [lo]
            show wi (wo m.now (nameOf A)) (nameOf B) (f i) = _
            rw [bl_wi, bl_wo, h.now])).retag hT
          rw [e3] at hm
          exact ⟨f, hm⟩
  · rw [show doX x K A B N r = (x.delete (nameOf A)).1 by unfold doX; rw [hK]; rfl]
    clear hN
    unfold M.delete X.delete
    rw [h.onF]
    simp only [if_neg h.stop]
    cases hg : get x.now (nameOf A) with
    | none =>
      simp only [Option.map, if_true]
      exact ⟨f, ha.retag hT⟩
    | some i =>
      simp only [Option.map]
      have lo : (m.act.lose (nameOf A)).now = m.now := by
        have e : (m.act.lose (nameOf A)).now = m.act.now := by unfold M.lose; split <;> rfl
        rw [e, g1]
      have hm := ((ha.lose (nameOf A)).move ⟨nameOf A, [], none⟩ (wo x.now (nameOf A)) (by
        rw [lo]
        show wo m.now (nameOf A) = _
        rw [bl_wo, h.now])).retag hT
      rw [e3] at hm
      exact ⟨f, hm⟩
  · rw [show doX x K A B N r = (x.cut (nameOf A) N).1 by unfold doX; rw [hK]; rfl]
    clear hN
    unfold M.cut X.cut
    rw [h.onF]
    simp only [if_neg h.stop]
    cases hg : get x.now (nameOf A) with
    | none => exact ⟨f, ha.retag hT⟩
    | some i =>
      have hi : i < x.L.length := G.now _ (got_mem hg)
      have hl := h.fl i hi
      simp only [Option.map]
      by_cases hb : N < 0 ∨ ((x.L.getD i ([], 0)).1.length : Int) < N
      · rw [if_pos hb, if_pos (by rw [hl]; exact hb)]
        exact ⟨f, ha.retag hT⟩
      · rw [if_neg hb, if_neg (by rw [hl]; exact hb)]
        have hi' : i < x.act.L.length := by rw [e1]; exact hi
        have := (ha.change i hi' ((m.fl (f i)).1.take N.toNat, N.toNat) ((x.L.getD i ([], 0)).1.take N.toNat, N) (by show List.take _ _ = List.take _ _; rw [hl]) (m.named - ((m.fl (f i)).1.length - N.toNat))).retag hT
        rw [g4, e1] at this
        exact ⟨f, this⟩
  · omega
  · omega
  · omega
theorem Sim.new (T : Nat → Tag) (r : Int) : Sim T (M.new r) (X.new r) (fun i => i) :=
  ⟨fun i j hi => by simp [X.new] at hi, fun i hi => by simp [X.new] at hi, rfl, rfl, fun k hk => by
    have hk : k ≤ 0 := hk
    obtain rfl : k = 0 := by omega
    rfl, fun i hi => by simp [X.new] at hi, rfl, rfl, ⟨rfl, rfl⟩, rfl, rfl, rfl⟩
end Go.Proofs.Ytkalgonkaoiapaa.Shf
