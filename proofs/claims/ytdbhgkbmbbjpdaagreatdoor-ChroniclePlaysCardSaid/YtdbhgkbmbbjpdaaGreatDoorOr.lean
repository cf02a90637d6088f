/- A file undone: what tidy deletes where there is one file more than there should be. A chronicle and its shelf where a record was refused. A record refused: what there was is there. -/
import Derived.Test.YtdbhgkbmbbjpdaaGreatDoorOm
namespace Go.Proofs.YtdbhgkbmbbjpdaaGreatDoor.Chr
open Go.ChangeShapes Go.WideShapes Go.ChangeAt Go.RowKit
open Shf (S str)
open Coin (Rd Row Own sz coin got Pur takeV endV CoinSaid)
open Frm (pack err size kind cnt body noItem itemV OneSaid)
set_option maxRecDepth 8000
set_option linter.unusedVariables false
open Shf (Tag Ext Rep M RdN get Fine nameOk act_now ages wo wi Mv)
theorem tidyL_own (own : List S) : ∀ (l : List S) (m : M), (∀ s ∈ l, s ∈ own) → tidyL own l m = (0, m)
  | [], _, _ => rfl
  | s :: l, m, h => by
    unfold tidyL
    rw [if_pos (h s List.mem_cons_self)]
    exact tidyL_own own l m fun t ht => h t (List.mem_cons_of_mem _ ht)
theorem tidyL_one {own : List S} {nm : S} (hnm : nm ∉ own) {m : M} (h0 : m.onE nm = 0) : ∀ l : List S, l.Nodup → nm ∈ l → (∀ s ∈ l, s ≠ nm → s ∈ own) → tidyL own l m = (0, m.delete nm)
  | [], _, h, _ => by cases h
  | s :: l, hd, hm, h => by
    unfold tidyL
    rw [List.nodup_cons] at hd
    by_cases e : s = nm
    · subst e
      rw [if_neg hnm, if_pos h0]
      exact tidyL_own own l _ fun t ht => h t (List.mem_cons_of_mem _ ht) fun e => hd.1 (e ▸ ht)
    · rw [if_pos (h s List.mem_cons_self e)]
      refine tidyL_one hnm h0 l hd.2 ?_ fun t ht => h t (List.mem_cons_of_mem _ ht)
      rcases List.mem_cons.1 hm with e2 | e2
      · exact absurd e2.symm e
      · exact e2
structure Und (m m' : M) (nm l : S) : Prop where
  on : On m'
  good : Shf.Good m'.now
  now : m'.now = wo m.now nm
  safe : m'.safe = m'.now
  moves : m'.moves = []
  room : m'.room = m.room
  gone : m'.gone = 0
  named : m'.named = m.named - l.length
  fl : m'.fl = m.fl
  done : m'.done = m.done + 2
theorem undo_one {own : List S} {m : M} {nm l : S} (h : On m) (G : Shf.Good m.now) (F : m.now = Shf.ages m.safe m.moves) (hnm : nm ∉ own) (hown : ∀ s, s ≠ nm → get m.now s ≠ none → s ∈ own) (hf : fileOf m nm = some l) (e : Nat) :
    (undoM own m e).1 = e ∧ Und m (undoM own m e).2 nm l := by
  obtain ⟨b, hg, hb⟩ := fileOf_some hf
  have hl : m.list = (m.now.map (·.1)).mergeSort (fun x y => decide (x ≤ y)) := by unfold Shf.M.list; rw [h.f]; rfl
  have hmem : ∀ s, s ∈ m.list ↔ get m.now s ≠ none := fun s => by
    rw [hl, List.mem_mergeSort, List.mem_map]
    constructor
    · rintro ⟨p, hp, rfl⟩ e
      exact Shf.get_none.1 e p.2 hp
    · intro hs
      cases hc : get m.now s with
      | none => exact absurd hc hs
      | some c => exact ⟨(s, c), Shf.mem_get hc, rfl⟩
  have hT : tidyL own m.list m = (0, m.delete nm) := tidyL_one hnm (onE_zero h hg) m.list (by rw [hl]; exact (List.mergeSort_perm _ _).nodup_iff.2 G.keys) ((hmem nm).2 (by rw [hg]; simp)) fun s hs hne => hown s hne ((hmem s).1 hs)
  have eD : m.delete nm = ({m with done := m.done + 1, named := m.named - l.length, gone := m.gone + l.length} : M).mv ⟨nm, [], none⟩ := by
    unfold Shf.M.delete
    rw [h.onF, hg, h.act.1]
    show (Shf.M.lose {m with done := m.done + 1} nm).mv _ = _
    unfold Shf.M.lose
    show (match get m.now nm with | none => _ | some b => _ : M).mv _ = _
    rw [hg]
    show (({m with done := m.done + 1, named := m.named - (m.fl b).1.length, gone := m.gone + (m.fl b).1.length} : M)).mv _ = _
    rw [hb]
  have oD : On (m.delete nm) := by rw [eD]; exact ⟨h.f, h.a⟩
  have nD : (m.delete nm).now = wo m.now nm := by rw [eD]; rfl
  have fD : (m.delete nm).now = Shf.ages (m.delete nm).safe (m.delete nm).moves := by
    rw [nD, eD]
    show _ = Shf.ages m.safe (m.moves ++ [_])
    rw [ages_snoc, ← F]
    rfl
  have lD : ¬ (m.delete nm).moves.length = 0 := by rw [eD]; simp [Shf.M.mv]
  obtain ⟨z, o2, a1, a2, a3, a4, a5, a6, a7, a8⟩ := names_on oD fD
  have hM : tidyM own m = (0, (m.delete nm).names) := by
    unfold tidyM tidyEnd
    rw [hT]
    simp only [if_true, lD, if_false, z]
  unfold undoM
  rw [hM]
  refine ⟨rfl, o2, ?_, a1.trans nD, ?_, a3, ?_, a6, ?_, ?_, ?_⟩
  · show Shf.Good (m.delete nm).names.now
    rw [a1, nD]; exact G.wo nm
  · show (m.delete nm).names.safe = (m.delete nm).names.now
    rw [a2, a1]
  · show (m.delete nm).names.room = _
    rw [a4, eD]; rfl
  · show (m.delete nm).names.named = _
    rw [a7, eD]; rfl
  · show (m.delete nm).names.fl = _
    rw [a8, eD]; rfl
  · show (m.delete nm).names.done = _
    rw [a5, eD]; rfl
theorem file_get {m : M} {t l : S} (h : fileOf m t = some l) : get m.now t ≠ none := by
  obtain ⟨b, hb, _⟩ := fileOf_some h
  rw [hb]; simp
theorem CG.same {c : CD} {m m' : M} (h : CG c m) (o : On m') (G : Shf.Good m'.now) (F : m'.now = Shf.ages m'.safe m'.moves) (hm : m'.moves = []) (hget : ∀ s, get m'.now s ≠ none → get m.now s ≠ none) (hr : ∀ t, get m.now t ≠ none → fileOf m' t = fileOf m t ∧ (Synced m t → Synced m' t)) : CG c m' := by
  have hi := hr idxN (file_get h.idx.1)
  refine ⟨o, F, G, hm, ⟨hi.1.trans h.idx.1, hi.2 h.idx.2⟩, fun hb => ?_, h.b0, fun d hd => ?_, fun d hd => ?_, h.nos, h.fi, h.f0, h.up, fun s hs => h.only s (hget s hs), h.nf⟩
  · obtain ⟨k1, k2, k3⟩ := h.ba hb
    have := hr _ (file_get k1)
    exact ⟨this.1.trans k1, this.2 k2, k3⟩
  · obtain ⟨k1, k2⟩ := h.vo d hd
    exact ⟨(hr _ (file_get k1)).1.trans k1, k2⟩
  · obtain ⟨k1, _⟩ := h.vo d (List.dropLast_subset _ hd)
    exact (hr _ (file_get k1)).2 (h.sy d hd)
theorem Und.rest {m m' : M} {nm l : S} (u : Und m m' nm l) {t : S} (ht : t ≠ nm) : get m'.now t = get m.now t ∧ fileOf m' t = fileOf m t ∧ (Synced m t → Synced m' t) := by
  have e : get m'.now t = get m.now t := by rw [u.now, Shf.get_wo, if_neg ht]
  refine ⟨e, by unfold fileOf; rw [e, u.fl], fun hs b hb => ?_⟩
  rw [e] at hb
  rw [u.fl]
  exact hs b hb
theorem CG.undo {c : CD} {m mm m' : M} {nm l : S} (h : CG c m) (hg : get m.now nm = none) (hrest : ∀ t, t ≠ nm → fileOf mm t = fileOf m t ∧ (Synced m t → Synced mm t)) (hget : ∀ t, t ≠ nm → get mm.now t = get m.now t) (u : Und mm m' nm l) : CG c m' := by
  refine h.same u.on u.good (by rw [u.moves, u.safe]; rfl) u.moves (fun s hs => ?_) (fun t ht => ?_)
  · have hne : s ≠ nm := fun e => by
      rw [e, u.now, Shf.get_wo, if_pos rfl] at hs
      exact hs rfl
    rw [(u.rest hne).1, hget s hne] at hs
    exact hs
  · have hne : t ≠ nm := fun e => ht (e ▸ hg)
    obtain ⟨_, k1, k2⟩ := u.rest hne
    obtain ⟨k3, k4⟩ := hrest t hne
    exact ⟨k1.trans k3, fun hs => k2 (k4 hs)⟩
theorem append_fail {m : M} (h : On m) {nm : S} {b : Nat} (hg : get m.now nm = some b) (p : S) (he : m.appendE nm p ≠ 0) : m.appendE nm p = 3 ∧ m.append nm p = {m with done := m.done + 1} := by
  have hn : (m.named + m.gone + p.length : Int) > m.room := by
    refine Classical.byContradiction fun hn => he ?_
    exact appendE_zero h hg p (by omega)
  constructor
  · unfold Shf.M.appendE
    rw [h.onF, hg]
    simp only [hn, if_true]
  · unfold Shf.M.append
    rw [h.onF, hg]
    simp only [hn, if_true]
    exact h.act.1
theorem append_room {m : M} (h : On m) {nm : S} {b : Nat} (hg : get m.now nm = some b) (p : S) (he : m.appendE nm p = 0) : (m.named + m.gone + p.length : Int) ≤ m.room := by
  refine Classical.byContradiction fun hn => ?_
  have hn : (m.named + m.gone + p.length : Int) > m.room := by omega
  unfold Shf.M.appendE at he
  rw [h.onF, hg] at he
  simp [hn] at he
theorem bres_fail {m m1 : M} {nm bs : S} {en : Nat} (h : On m) (G : Shf.Good m.now) (F : m.now = Shf.ages m.safe m.moves) (hn : nameOk nm = true) (hg : get m.now nm = none) (hb : BRes m nm bs en m1) (h0 : en ≠ 0) : en = 3 ∧ ∃ b, m1 = {m.create nm b with done := (m.create nm b).done + 1} := by
  have cz := create_sz h G F nm hn hg
  have eC := (create_on h G F nm hn hg).1
  rcases hb with ⟨h1, _⟩ | ⟨_, ⟨e, _⟩ | ⟨ma, ⟨_, b, rfl⟩, e, rfl⟩ | ⟨ma, ⟨mb, ⟨_, b, rfl⟩, _, rfl⟩, e, _⟩ | ⟨ma, ⟨mc, ⟨mb, ⟨_, b, rfl⟩, _, rfl⟩, _, rfl⟩, e, _⟩⟩
  · exact absurd h1 h0
  · exact absurd (e.trans eC) h0
  · obtain ⟨k1, k2⟩ := append_fail (on_create h nm b) (cz b).2.2.2 bs (e ▸ h0)
    exact ⟨e.trans k1, b, k2⟩
  · exact absurd (e.trans (onE_zero (on_append (on_create h _ _) _ _) (by rw [now_append]; exact (cz b).2.2.2))) h0
  · exact absurd (e.trans (on_sync (on_append (on_create h _ _) _ _) _).act.2) h0
theorem bst_room {m m1 : M} {nm bs : S} (h : On m) (G : Shf.Good m.now) (F : m.now = Shf.ages m.safe m.moves) (hn : nameOk nm = true) (hg : get m.now nm = none) (hb : BSt m nm bs 4 m1) : (m.named + m.gone + bs.length : Int) ≤ m.room := by
  obtain ⟨ma, ⟨mb, ⟨mc, ⟨_, b, rfl⟩, e, _⟩, _, _⟩, _, _⟩ := hb
  obtain ⟨c1, c2, c3, c4⟩ := create_sz h G F nm hn hg b
  have := append_room (on_create h nm b) c4 bs e
  rw [c1, c2, c3] at this
  exact this
theorem CG.own_of {c : CD} {m : M} (h : CG c m) {s : S} (hs : get m.now s ≠ none) : s ∈ c.own := by
  unfold CD.own CD.own0
  rcases h.only s hs with e | ⟨hb, e⟩ | ⟨d, hd, e⟩
  · refine List.mem_append_right _ ?_
    split <;> simp [e]
  · refine List.mem_append_right _ ?_
    rw [if_neg hb, e]
    simp
  · exact List.mem_append_left _ (List.mem_map.2 ⟨d, hd, e.symm⟩)
theorem CG.of_own {c : CD} {m : M} (h : CG c m) {s : S} (hs : s ∈ c.own) : get m.now s ≠ none := by
  unfold CD.own CD.own0 at hs
  rcases List.mem_append.1 hs with hs | hs
  · obtain ⟨d, hd, rfl⟩ := List.mem_map.1 hs
    exact file_get (h.vo d hd).1
  · by_cases hb : c.hB = 0
    · rw [if_pos hb, List.mem_singleton] at hs
      rw [hs]
      exact file_get h.idx.1
    · rw [if_neg hb] at hs
      rcases List.mem_cons.1 hs with e | e
      · rw [e]; exact file_get (h.ba hb).1
      · rw [List.mem_singleton.1 e]; exact file_get h.idx.1
set_option maxHeartbeats 1000000 in
theorem CG.refused {c : CD} {m : M} (h : CG c m) (N : CN c) (N1 : c.hF + c.vols.length < 98) (k : UInt8) (p : S) {e : Nat} {m' : M} {c' : CD} (ha : AdM c m k p e m' c') (he0 : e ≠ 0) :
    e = 3 ∧ c' = c ∧ CG c m' ∧ m'.room = m.room ∧ m'.done ≤ m.done + 9 ∧ ∀ K, Nms m K → Nms m' (K + 2) := by
  rcases ha with ⟨l, d, hl, hlt, he, rfl, hc⟩ | ⟨hno, h2⟩
  · obtain ⟨b, hg, _⟩ := fileOf_some (h.vo d (by rw [hl]; simp)).1
    obtain ⟨k1, k2⟩ := append_fail h.on hg (pack k p) (he ▸ he0)
    refine ⟨he.trans k1, ?_, ?_, ?_, ?_, fun K hk => ?_⟩
    · rw [hc]; unfold atlC; rw [if_neg he0]
    · rw [k2]; exact h.same ⟨h.on.f, h.on.a⟩ h.good h.ages h.mv (fun s hs => hs) (fun t _ => ⟨rfl, fun hs => hs⟩)
    · rw [k2]
    · rw [k2]; show m.done + 1 ≤ _; omega
    · rw [k2]; exact nms_mono (hk : Nms m K) (by omega)
  · obtain ⟨s1, s2, s3, s4, s5⟩ := h.sync
    rcases h2 with ⟨h0, _⟩ | ⟨_, en, mb, cb, hb, h3⟩
    · exact absurd s1 h0
    · have sk : ∀ K, Nms m K → Nms (syM c m).2 K := fun K hk => by
        unfold syM
        split
        · exact hk
        · exact nms_sync hk _
      have ss := (syM_small c m).1
      have hvl : (vName c.nextNo).length ≤ 1000 := vName_le _ (by rw [nextNo_at h]; omega)
      have hg : get (syM c m).2.now (vName c.nextNo) = none := s2.nogot (by omega) (by have := N.hB; omega) c.nextNo (by rw [nextNo_at h]; omega) (fun i hi e => by rw [nextNo_at h] at e; omega)
      have hvn := vn_ok c.nextNo (by rw [nextNo_at h]; omega)
      have hnm : vName c.nextNo ∉ c.own := fun hx => s2.of_own hx hg
      obtain ⟨en1, m1, ⟨hres, Gm1⟩, hcase⟩ := hb
      rcases h3 with ⟨hz, rfl, rfl, rfl⟩ | ⟨rfl, _, h4⟩
      · rcases hcase with ⟨_, h0, _⟩ | ⟨h0, h1, h2, _⟩
        · exact absurd h0 hz
        · obtain ⟨rfl, b, rfl⟩ := bres_fail s2.on s2.good s2.ages hvn hg hres h0
          obtain ⟨hnow, hNw⟩ := (create_on s2.on s2.good s2.ages (vName c'.nextNo) hvn hg).2 b
          have nw := hNw Gm1
          have hget : ∀ t, t ≠ vName c'.nextNo → get ((syM c' m).2.create (vName c'.nextNo) b).now t = get (syM c' m).2.now t := fun t ht => by
            rw [hnow, Shf.get_app]
            cases get (syM c' m).2.now t with
            | some x => rfl
            | none => simp [Shf.get, Ne.symm ht]
          obtain ⟨u1, u⟩ := undo_one (own := c'.own) (m := {(syM c' m).2.create (vName c'.nextNo) b with done := ((syM c' m).2.create (vName c'.nextNo) b).done + 1}) (nm := vName c'.nextNo) (l := []) ⟨nw.on.f, nw.on.a⟩ nw.good nw.ages hnm (fun s hs hx => s2.own_of (by rw [← hget s hs]; exact hx)) nw.is 3
          rw [← h1] at u1
          rw [← h2] at u
          refine ⟨u1, rfl, s2.undo (mm := {(syM c' m).2.create (vName c'.nextNo) b with done := ((syM c' m).2.create (vName c'.nextNo) b).done + 1}) hg nw.rest hget u, u.room.trans (nw.room.trans s4), ?_, fun K hk => ?_⟩
          · have a1 := (sm_create (syM c' m).2 (vName c'.nextNo) b).1
            have a2 : _ = ((syM c' m).2.create (vName c'.nextNo) b).done + 1 + 2 := u.done
            omega
          · show NmsL _ _
            rw [u.now]
            exact (nms_mono (nms_create (sk K hk) _ hvl b) (by omega)).wo _
      · rcases hcase with ⟨hz, _, rfl, hcb⟩ | ⟨h0, h1, _⟩
        · rcases hres with ⟨_, hb4⟩ | ⟨h0, _⟩
          · have hrr := bst_room s2.on s2.good s2.ages hvn hg hb4
            obtain ⟨o1, ⟨b, gb⟩, sz1, rm1⟩ := bst4 s2.on s2.good s2.ages hvn hg hrr hb4
            obtain ⟨_, nw⟩ := begin_ok s2.on s2.good s2.ages hvn hg hrr (Or.inl ⟨hz, hb4⟩ : BRes _ _ _ en1 _) Gm1
            rcases h4 with ⟨_, h5, _⟩ | ⟨h5, h6, h7, rfl⟩
            · exact absurd h5 he0
            · obtain ⟨k1, k2⟩ := append_fail nw.on gb (pack k p) h5
              rw [k1, k2] at h6 h7
              obtain ⟨u1, u⟩ := undo_one (own := c'.own) (m := {mb with done := mb.done + 1}) (nm := vName c'.nextNo) ⟨nw.on.f, nw.on.a⟩ nw.good (by show mb.now = Shf.ages mb.safe mb.moves; rw [nw.moves, nw.safe]; rfl) hnm (fun s hs hx => s2.own_of (by rw [← nw.get s hs]; exact hx)) nw.is 3
              rw [← h6] at u1
              rw [← h7] at u
              refine ⟨u1, rfl, s2.undo (mm := {mb with done := mb.done + 1}) hg nw.rest nw.get u, u.room.trans (nw.room.trans s4), ?_, fun K hk => ?_⟩
              · have a1 := BSt_small hb4
                have a2 : _ = mb.done + 1 + 2 := u.done
                omega
              · show NmsL _ _
                rw [u.now]
                exact ((bst_nms hvl (sk K hk) hb4).more).wo _
          · exact absurd hz h0
        · unfold undoM at h1
          split at h1
          · exact absurd h1.symm h0
          · rename_i h2; exact absurd h1.symm h2
end Go.Proofs.YtdbhgkbmbbjpdaaGreatDoor.Chr
