/- A new volume, an index: where nothing goes wrong. A chronicle and its shelf, where nothing goes wrong: opened anew, a record more, all safe. A chronicle and its shelf, where nothing goes wrong: records, Sync, falls, opened again. Open, where nothing went wrong. -/
import Derived.Test.YtdbhgkbmbbjpdaaGreatDoorOb
namespace Go.Proofs.YtdbhgkbmbbjpdaaGreatDoor.Chr
open Go.ChangeShapes Go.WideShapes Go.ChangeAt Go.RowKit
open Shf (S str)
open Coin (Rd Row Own sz coin got Pur takeV endV CoinSaid)
open Frm (pack err size kind cnt body noItem itemV OneSaid)
set_option maxRecDepth 8000
set_option linter.unusedVariables false
open Shf (Tag Ext Rep M RdN get Fine nameOk act_now ages wo wi Mv)
theorem vn_ok (n : Nat) (h : n < 100) : nameOk (vName n) = true := by
  have : ∀ n : Fin 100, nameOk (vName n.1) = true := by decide +kernel
  exact this ⟨n, h⟩
theorem vn_ne (i j : Nat) (hi : i < 100) (hj : j < 100) (h : vName i = vName j) : i = j := by
  have : ∀ i j : Fin 100, vName i.1 = vName j.1 → i.1 = j.1 := by decide +kernel
  exact this ⟨i, hi⟩ ⟨j, hj⟩ h
theorem vn_idx (i : Nat) (hi : i < 100) : vName i ≠ idxN ∧ vName i ≠ besN := by
  have : ∀ i : Fin 100, vName i.1 ≠ idxN ∧ vName i.1 ≠ besN := by decide +kernel
  exact this ⟨i, hi⟩
theorem vn_bn (i j : Nat) (hi : i < 100) (hj : j < 100) : vName i ≠ bName j := by
  have : ∀ i j : Fin 100, vName i.1 ≠ bName j.1 := by decide +kernel
  exact this ⟨i, hi⟩ ⟨j, hj⟩
theorem now_append (m : M) (nm p : S) : (m.append nm p).now = m.now := by
  unfold Shf.M.append
  split
  · exact (act_now m).1
  · split <;> exact (act_now m).1
theorem now_sync (m : M) (nm : S) : (m.sync nm).now = m.now := by
  unfold Shf.M.sync
  split <;> exact (act_now m).1
theorem now_names (m : M) : m.names.now = m.now := by
  unfold Shf.M.names
  split <;> exact (act_now m).1
theorem on_append {m : M} (h : On m) (nm p : S) : On (m.append nm p) := by
  unfold Shf.M.append
  rw [h.act.1]
  split
  · exact ⟨h.f, h.a⟩
  · split <;> exact ⟨h.f, h.a⟩
theorem on_sync {m : M} (h : On m) (nm : S) : On (m.sync nm) := by
  unfold Shf.M.sync
  rw [h.act.1]
  split <;> exact ⟨h.f, h.a⟩
theorem on_create {m : M} (h : On m) (nm : S) (b : Nat) : On (m.create nm b) := by
  unfold Shf.M.create
  rw [h.act.1]
  split
  · exact h
  · split
    · exact ⟨h.f, h.a⟩
    · split <;> exact ⟨h.f, h.a⟩
theorem ages_snoc (l : List (S × Nat)) (vs : List Mv) (v : Mv) : ages l (vs ++ [v]) = v.on (ages l vs) := by
  unfold Shf.ages
  rw [List.foldl_append]
  rfl
structure Nw (m mm : M) (nm l : S) : Prop where
  on : On mm
  good : Shf.Good mm.now
  now : ∃ b, mm.now = m.now ++ [(nm, b)]
  ages : mm.now = Shf.ages mm.safe mm.moves
  room : mm.room = m.room
  gone : mm.gone = m.gone
  named : mm.named = m.named + l.length
  is : fileOf mm nm = some l
  rest : ∀ t, t ≠ nm → fileOf mm t = fileOf m t ∧ (Synced m t → Synced mm t)
theorem create_on {m : M} (h : On m) (G : Shf.Good m.now) (F : m.now = Shf.ages m.safe m.moves) (nm : S) (hn : nameOk nm = true) (hg : get m.now nm = none) : m.createE nm = 0 ∧ ∀ b, (m.create nm b).now = m.now ++ [(nm, b)] ∧ (Shf.Good (m.create nm b).now → Nw m (m.create nm b) nm []) := by
  have eE : m.createE nm = 0 := by unfold Shf.M.createE; rw [hn, h.act.2, hg]; simp
  have hw : wo m.now [] = m.now := Shf.wo_self fun p hp => G.ne p hp
  have hw2 : wo m.now nm = m.now := Shf.wo_self fun p hp e => by
    have h2 := Shf.get_none.1 hg p.2
    exact h2 (by rw [← e]; exact hp)
  have eN : Mv.on ⟨[], nm, some 0⟩ m.now = m.now ++ [(nm, 0)] := by
    show wi (wo m.now []) nm 0 = _
    rw [hw]; unfold Shf.wi; rw [hw2]
  refine ⟨eE, fun b => ?_⟩
  have eN : Mv.on ⟨[], nm, some b⟩ m.now = m.now ++ [(nm, b)] := by
    show wi (wo m.now []) nm b = _
    rw [hw]; unfold Shf.wi; rw [hw2]
  have eM : m.create nm b = (m.act.file b ([], 0)).mv ⟨[], nm, some b⟩ := by unfold Shf.M.create; rw [hn, h.act.2, hg]; simp
  have eNow : (m.create nm b).now = m.now ++ [(nm, b)] := by
    rw [eM, h.act.1]
    exact eN
  refine ⟨eNow, fun G2 => ?_⟩
  have hgb : get (m.now ++ [(nm, b)]) nm = some b := by rw [Shf.get_app, hg]; simp [Shf.get]
  have hgt : ∀ t, t ≠ nm → get (m.now ++ [(nm, b)]) t = get m.now t := fun t ht => by
    rw [Shf.get_app]
    cases get m.now t with
    | some c => rfl
    | none => simp [Shf.get, Ne.symm ht]
  have hne : ∀ t c, t ≠ nm → get m.now t = some c → c ≠ b := fun t c ht hc => by
    rw [eNow] at G2
    exact get_ne G2 (by rw [hgt t ht]; exact hc) hgb ht
  refine ⟨?_, G2, ⟨b, eNow⟩, ?_, ?_, ?_, ?_, ?_, fun t ht => ⟨?_, fun hs c hc => ?_⟩⟩
  · rw [eM, h.act.1]; exact ⟨h.f, h.a⟩
  · rw [eNow, eM, h.act.1]
    show _ = Shf.ages m.safe (m.moves ++ [_])
    rw [ages_snoc, ← F, eN]
  · rw [eM, h.act.1]; rfl
  · rw [eM, h.act.1]; rfl
  · rw [eM, h.act.1]; rfl
  · unfold fileOf
    rw [eNow, hgb, eM, h.act.1]
    show some (if b = b then (([], 0) : S × Nat) else m.fl b).1 = _
    rw [if_pos rfl]
  · unfold fileOf
    rw [eNow, hgt t ht, eM, h.act.1]
    cases hc : get m.now t with
    | none => rfl
    | some c =>
      show some (if c = b then (([], 0) : S × Nat) else m.fl c).1 = _
      rw [if_neg (hne t c ht hc)]
      rfl
  · rw [eNow, hgt t ht] at hc
    rw [eM, h.act.1]
    show (if c = b then (([], 0) : S × Nat) else m.fl c).2 = (if c = b then (([], 0) : S × Nat) else m.fl c).1.length
    rw [if_neg (hne t c ht hc)]
    exact hs c hc
theorem Nw.app {m mm : M} {nm l : S} (h : Nw m mm nm l) (p : S) (hr : (mm.named + mm.gone + p.length : Int) ≤ mm.room) : mm.appendE nm p = 0 ∧ Nw m (mm.append nm p) nm (l ++ p) := by
  obtain ⟨e, s, nd⟩ := append_on h.on h.good h.is p hr
  refine ⟨e, ⟨s.on, by rw [s.now]; exact h.good, by rw [s.now]; exact h.now, by rw [s.now, s.safe, s.moves]; exact h.ages, s.room.trans h.room, s.gone.trans h.gone, by rw [nd, h.named, List.length_append]; omega, s.is, fun t ht => ⟨(s.rest t ht).1.trans (h.rest t ht).1, fun hs => (s.rest t ht).2 ((h.rest t ht).2 hs)⟩⟩⟩
theorem Nw.sync {m mm : M} {nm l : S} (h : Nw m mm nm l) : mm.onE nm = 0 ∧ Nw m (mm.sync nm) nm l ∧ Synced (mm.sync nm) nm := by
  obtain ⟨e, s, nd, sy⟩ := sync_on h.on h.good h.is
  exact ⟨e, ⟨s.on, by rw [s.now]; exact h.good, by rw [s.now]; exact h.now, by rw [s.now, s.safe, s.moves]; exact h.ages, s.room.trans h.room, s.gone.trans h.gone, by rw [nd, h.named], s.is, fun t ht => ⟨(s.rest t ht).1.trans (h.rest t ht).1, fun hs => (s.rest t ht).2 ((h.rest t ht).2 hs)⟩⟩, sy⟩
structure Nw9 (m mm : M) (nm l : S) : Prop where
  on : On mm
  good : Shf.Good mm.now
  get : ∀ t, t ≠ nm → get mm.now t = get m.now t
  safe : mm.safe = mm.now
  moves : mm.moves = []
  room : mm.room = m.room
  gone : mm.gone = 0
  named : mm.named ≤ m.named + l.length
  is : fileOf mm nm = some l
  sy : Synced mm nm
  rest : ∀ t, t ≠ nm → fileOf mm t = fileOf m t ∧ (Synced m t → Synced mm t)
theorem get_more (l : List (S × Nat)) (nm : S) (b : Nat) (t : S) (ht : t ≠ nm) : Shf.get (l ++ [(nm, b)]) t = Shf.get l t := by
  rw [Shf.get_app]
  cases Shf.get l t with
  | some c => rfl
  | none => simp [Shf.get, Ne.symm ht]
theorem Nw.names {m mm : M} {nm l : S} (h : Nw m mm nm l) (hs : Synced mm nm) : mm.actE = 0 ∧ Nw9 m mm.names nm l := by
  obtain ⟨e, o, n1, n2, n3, n4, n5, n6, n7, n8⟩ := names_on h.on h.ages
  have hf : ∀ t, fileOf mm.names t = fileOf mm t := fun t => by unfold fileOf; rw [n1, n8]
  have hsy : ∀ t, Synced mm t → Synced mm.names t := fun t hs b hb => by
    rw [n1] at hb
    rw [n8]
    exact hs b hb
  obtain ⟨b, hb⟩ := h.now
  exact ⟨e, ⟨o, by rw [n1]; exact h.good, fun t ht => by rw [n1, hb]; exact get_more _ _ _ t ht, by rw [n2, n1], n3, n4.trans h.room, n6, by rw [n7, h.named]; omega, (hf nm).trans h.is, hsy nm hs, fun t ht => ⟨(hf t).trans (h.rest t ht).1, fun x => hsy t ((h.rest t ht).2 x)⟩⟩⟩
theorem begin_ok {m m1 : M} {nm bs : S} {en : Nat} (h : On m) (G : Shf.Good m.now) (F : m.now = Shf.ages m.safe m.moves) (hn : nameOk nm = true) (hg : get m.now nm = none) (hr : (m.named + m.gone + bs.length : Int) ≤ m.room) (hb : BRes m nm bs en m1) (G1 : Shf.Good m1.now) : en = 0 ∧ Nw9 m m1 nm bs := by
  obtain ⟨eC, hC⟩ := create_on h G F nm hn hg
  have s1 : ∀ ma, BSt m nm bs 1 ma → Shf.Good ma.now → ma.appendE nm bs = 0 ∧ Nw m (ma.append nm bs) nm bs := fun ma ha Ga => by
    obtain ⟨_, b, rfl⟩ := ha
    have n1 := (hC b).2 Ga
    have n2 := n1.app bs (by rw [n1.named, n1.gone, n1.room]; exact hr)
    rw [List.nil_append] at n2
    exact n2
  have s2 : ∀ ma, BSt m nm bs 2 ma → Shf.Good ma.now → ma.onE nm = 0 ∧ Nw m (ma.sync nm) nm bs ∧ Synced (ma.sync nm) nm := fun ma ha Ga => by
    obtain ⟨mb, hb, _, rfl⟩ := ha
    exact (s1 mb hb (by rw [now_append] at Ga; exact Ga)).2.sync
  have s3 : ∀ ma, BSt m nm bs 3 ma → Shf.Good ma.now → ma.actE = 0 ∧ Nw9 m ma.names nm bs := fun ma ha Ga => by
    obtain ⟨mb, hb, _, rfl⟩ := ha
    have s := s2 mb hb (by rw [now_sync] at Ga; exact Ga)
    exact s.2.1.names s.2.2
  rcases hb with ⟨h0, hb⟩ | ⟨h0, ⟨e, _⟩ | ⟨ma, ha, e, rfl⟩ | ⟨ma, ha, e, rfl⟩ | ⟨ma, ha, e, rfl⟩⟩
  · obtain ⟨ma, ha, _, rfl⟩ := hb
    exact ⟨h0, (s3 ma ha (by rw [now_names] at G1; exact G1)).2⟩
  · exact absurd (e.trans eC) h0
  · exact absurd (e.trans (s1 ma ha (by rw [now_append] at G1; exact G1)).1) h0
  · exact absurd (e.trans (s2 ma ha (by rw [now_sync] at G1; exact G1)).1) h0
  · exact absurd (e.trans (s3 ma ha (by rw [now_names] at G1; exact G1)).1) h0
theorem tidy_clean {own : List S} {m : M} (h : On m) (hl : ∀ s, get m.now s ≠ none → s ∈ own) (hm : m.moves = []) : tidyM own m = (0, m) := by
  have hall : ∀ l : List S, (∀ s ∈ l, s ∈ own) → tidyL own l m = (0, m) := fun l => by
    induction l with
    | nil => intro _; rfl
    | cons s l ih =>
      intro hs
      unfold tidyL
      rw [if_pos (hs s List.mem_cons_self)]
      exact ih fun t ht => hs t (List.mem_cons_of_mem _ ht)
  have hmem : ∀ s ∈ m.list, s ∈ own := fun s hs => by
    unfold Shf.M.list at hs
    rw [h.f] at hs
    simp only [Bool.false_eq_true, if_false, List.mem_mergeSort, List.mem_map] at hs
    obtain ⟨p, hp, rfl⟩ := hs
    refine hl p.1 fun e => ?_
    exact Shf.get_none.1 e p.2 hp
  unfold tidyM tidyEnd
  rw [hall _ hmem]
  simp [hm]
theorem write_ok {m m1 : M} {bs : S} {en : Nat} (h : On m) (G : Shf.Good m.now) (F : m.now = Shf.ages m.safe m.moves) (hi : get m.now idxN = none) (hg : get m.now besN = none) (hr : (m.named + m.gone + bs.length : Int) ≤ m.room) (hb : WRes m idxN bs en m1) (G1 : Shf.Good m1.now) : en = 0 ∧ Nw9 m m1 idxN bs ∧ get m1.now besN = none := by
  obtain ⟨eC, hC⟩ := create_on h G F besN (by decide) hg
  have s1 : ∀ ma, WSt m idxN bs 1 ma → Shf.Good ma.now → ma.appendE besN bs = 0 ∧ Nw m (ma.append besN bs) besN bs := fun ma ha Ga => by
    obtain ⟨_, b, rfl, _⟩ := ha
    have n1 := (hC b).2 Ga
    have n2 := n1.app bs (by rw [n1.named, n1.gone, n1.room]; exact hr)
    rw [List.nil_append] at n2
    exact n2
  have s2 : ∀ ma, WSt m idxN bs 2 ma → Shf.Good ma.now → ma.onE besN = 0 ∧ Nw m (ma.sync besN) besN bs ∧ Synced (ma.sync besN) besN := fun ma ha Ga => by
    obtain ⟨mb, hb, _, rfl⟩ := ha
    exact (s1 mb hb (by rw [now_append] at Ga; exact Ga)).2.sync
  have hbi : besN ≠ idxN := by decide
  have ok : nameOk idxN = true := by decide
  have hkeys : ∀ b, wo (m.now ++ [(besN, b)]) besN = m.now := fun b => by
    have e := Shf.wo_self (l := m.now) (s := besN) fun p hp e => Shf.get_none.1 hg p.2 (by rw [← e]; exact hp)
    unfold Shf.wo at e ⊢
    rw [List.filter_append, e]
    simp
  have hwi : wo m.now idxN = m.now := Shf.wo_self fun p hp e => Shf.get_none.1 hi p.2 (by rw [← e]; exact hp)
  have hgb : ∀ b, get (m.now ++ [(besN, b)]) besN = some b := fun b => by rw [Shf.get_app, hg]; simp [Shf.get]
  have hgi : ∀ b, get (m.now ++ [(besN, b)]) idxN = none := fun b => by rw [get_more _ _ _ _ (Ne.symm hbi), hi]
  have hon : ∀ b, (Mv.on ⟨besN, idxN, some b⟩ (m.now ++ [(besN, b)])) = m.now ++ [(idxN, b)] := fun b => by
    show wi (wo (m.now ++ [(besN, b)]) besN) idxN b = _
    rw [hkeys]
    unfold Shf.wi
    rw [hwi]
  -- what is renamed
  have ren : ∀ (mc : M) (b : Nat), On mc → mc.now = m.now ++ [(besN, b)] → mc.renameE besN idxN = 0 ∧ mc.rename besN idxN = mc.act.mv ⟨besN, idxN, some b⟩ ∧ (mc.rename besN idxN).now = m.now ++ [(idxN, b)] := fun mc b hc hb => by
    have eE : mc.renameE besN idxN = 0 := by
      unfold Shf.M.renameE Shf.M.onE
      rw [ok, hc.act.2, hb, hgb]
      simp
    have eM : mc.rename besN idxN = mc.act.mv ⟨besN, idxN, some b⟩ := by
      unfold Shf.M.rename
      rw [ok, hc.onF, hb, hgb]
      simp only [Bool.true_eq_false, if_false, if_neg hbi]
      have el : mc.act.lose idxN = mc.act := by
        unfold Shf.M.lose
        rw [(act_now mc).1, hb, hgi]
      rw [el]
    refine ⟨eE, eM, ?_⟩
    rw [eM]
    show Mv.on ⟨besN, idxN, some b⟩ mc.act.now = _
    rw [(act_now mc).1, hb, hon]
  have now3 : ∀ mc, WSt m idxN bs 3 mc → On mc ∧ ∃ b, mc.now = m.now ++ [(besN, b)] := fun mc hc => by
    obtain ⟨mb, ⟨ma, ⟨_, b, rfl, _⟩, _, rfl⟩, _, rfl⟩ := hc
    refine ⟨on_sync (on_append (on_create h _ _) _ _) _, b, ?_⟩
    rw [now_sync, now_append, (hC b).1]
  have good3 : ∀ (mc : M) (b : Nat), mc.now = m.now ++ [(besN, b)] → Shf.Good (m.now ++ [(idxN, b)]) → Shf.Good mc.now := fun mc b hb G2 => by
    have h1 := G.wi besN b (by decide) (fun t ht hm => by
      have e := G2.one (List.mem_append_left _ hm) (List.mem_append_right _ (List.mem_singleton.2 rfl) : (idxN, b) ∈ m.now ++ [(idxN, b)])
      rw [e] at hm
      exact Shf.get_none.1 hi b hm)
    have hw2 : wo m.now besN = m.now := Shf.wo_self fun p hp e => Shf.get_none.1 hg p.2 (by rw [← e]; exact hp)
    unfold Shf.wi at h1
    rw [hw2] at h1
    rw [hb]
    exact h1
  rcases hb with ⟨h0, hb⟩ | ⟨h0, ⟨e, _⟩ | ⟨ma, ha, e, rfl⟩ | ⟨ma, ha, e, rfl⟩ | ⟨ma, ha, e, rfl⟩ | ⟨ma, ha, e, rfl⟩⟩
  · obtain ⟨md, ⟨mc, hc, _, rfl⟩, _, rfl⟩ := hb
    obtain ⟨oc, b, hnb⟩ := now3 mc hc
    obtain ⟨_, eM, eNow⟩ := ren mc b oc hnb
    rw [now_names, eNow] at G1
    have Gc := good3 mc b hnb G1
    have hcc := hc
    obtain ⟨mb, hb2, _, rfl⟩ := hcc
    obtain ⟨_, n3, sy⟩ := s2 mb hb2 (by rw [now_sync] at Gc; exact Gc)
    have hgn : get (m.now ++ [(idxN, b)]) idxN = some b := by rw [Shf.get_app, hi]; simp [Shf.get]
    have hfl : ((mb.sync besN).rename besN idxN).fl = (mb.sync besN).fl := by rw [eM, oc.act.1]; rfl
    have hgt : ∀ t, t ≠ idxN → t ≠ besN → get ((mb.sync besN).rename besN idxN).now t = get (mb.sync besN).now t := fun t h1 h2 => by
      rw [eNow, get_more _ _ _ _ h1, hnb, get_more _ _ _ _ h2]
    have hbn : get ((mb.sync besN).rename besN idxN).now besN = none := by rw [eNow, get_more _ _ _ _ hbi, hg]
    have hisb : get (mb.sync besN).now besN = some b := by rw [hnb, hgb]
    have nw : Nw m ((mb.sync besN).rename besN idxN) idxN bs := by
      refine ⟨by rw [eM, oc.act.1]; exact ⟨oc.f, oc.a⟩, by rw [eNow]; exact G1, ⟨b, eNow⟩, ?_, by rw [eM, oc.act.1]; exact n3.room, by rw [eM, oc.act.1]; exact n3.gone, by rw [eM, oc.act.1]; exact n3.named, ?_, fun t ht => ⟨?_, fun hs c hc => ?_⟩⟩
      · rw [eNow, eM, oc.act.1]
        show _ = Shf.ages (mb.sync besN).safe ((mb.sync besN).moves ++ [_])
        rw [ages_snoc, ← n3.ages, hnb, hon]
      · have hi2 := n3.is
        unfold fileOf at hi2 ⊢
        rw [hisb] at hi2
        rw [eNow, hgn, hfl]
        exact hi2
      · by_cases h2 : t = besN
        · unfold fileOf
          rw [h2, hbn, hg]
          rfl
        · have := (n3.rest t h2).1
          unfold fileOf at this ⊢
          rw [hgt t ht h2, hfl]
          exact this
      · by_cases h2 : t = besN
        · rw [h2, hbn] at hc; cases hc
        · rw [hgt t ht h2] at hc
          rw [hfl]
          exact (n3.rest t h2).2 hs c hc
    have sy2 : Synced ((mb.sync besN).rename besN idxN) idxN := fun c hc => by
      rw [eNow, hgn] at hc
      injection hc with hc
      rw [hfl, ← hc]
      exact sy b hisb
    exact ⟨h0, (nw.names sy2).2, by rw [now_names]; exact hbn⟩
  · exact absurd (e.trans eC) h0
  · exact absurd (e.trans (s1 ma ha (by rw [now_append] at G1; exact G1)).1) h0
  · exact absurd (e.trans (s2 ma ha (by rw [now_sync] at G1; exact G1)).1) h0
  · obtain ⟨oc, b, hnb⟩ := now3 ma ha
    exact absurd (e.trans (ren ma b oc hnb).1) h0
  · obtain ⟨mc, hc, _, rfl⟩ := ha
    obtain ⟨oc, b, hnb⟩ := now3 mc hc
    have o : On (mc.rename besN idxN) := by rw [(ren mc b oc hnb).2.1, oc.act.1]; exact ⟨oc.f, oc.a⟩
    exact absurd (e.trans o.act.2) h0
end Go.Proofs.YtdbhgkbmbbjpdaaGreatDoor.Chr
namespace Go.Proofs.YtdbhgkbmbbjpdaaGreatDoor.Chr
open Go.ChangeShapes Go.WideShapes Go.ChangeAt Go.RowKit
open Shf (S str)
open Coin (Rd Row Own sz coin got Pur takeV endV CoinSaid)
open Frm (pack err size kind cnt body noItem itemV OneSaid)
set_option maxRecDepth 8000
set_option linter.unusedVariables false
open Shf (Tag Ext Rep M RdN get Fine nameOk act_now ages wo wi Mv)
theorem create_sz {m : M} (h : On m) (G : Shf.Good m.now) (F : m.now = Shf.ages m.safe m.moves) (nm : S) (hn : nameOk nm = true) (hg : get m.now nm = none) (b : Nat) : (m.create nm b).named = m.named ∧ (m.create nm b).gone = m.gone ∧ (m.create nm b).room = m.room ∧ get (m.create nm b).now nm = some b := by
  have eM : m.create nm b = (m.act.file b ([], 0)).mv ⟨[], nm, some b⟩ := by unfold Shf.M.create; rw [hn, h.act.2, hg]; simp
  refine ⟨by rw [eM, h.act.1]; rfl, by rw [eM, h.act.1]; rfl, by rw [eM, h.act.1]; rfl, ?_⟩
  rw [((create_on h G F nm hn hg).2 b).1, Shf.get_app, hg]
  simp [Shf.get]
theorem appendE_zero {m : M} (h : On m) {nm : S} {b : Nat} (hg : get m.now nm = some b) (p : S) (hr : (m.named + m.gone + p.length : Int) ≤ m.room) : m.appendE nm p = 0 := by
  have h1 : ¬ (m.named + m.gone + p.length : Int) > m.room := by omega
  unfold Shf.M.appendE
  rw [h.onF, hg]
  simp only [h1, if_false]
theorem onE_zero {m : M} (h : On m) {nm : S} {b : Nat} (hg : get m.now nm = some b) : m.onE nm = 0 := by
  unfold Shf.M.onE
  rw [h.act.2, hg]
  simp
theorem bres_zero {m m1 : M} {nm bs : S} {en : Nat} (h : On m) (G : Shf.Good m.now) (F : m.now = Shf.ages m.safe m.moves) (hn : nameOk nm = true) (hg : get m.now nm = none) (hr : (m.named + m.gone + bs.length : Int) ≤ m.room) (hb : BRes m nm bs en m1) : en = 0 := by
  have cz := create_sz h G F nm hn hg
  have eC := (create_on h G F nm hn hg).1
  rcases hb with ⟨h0, _⟩ | ⟨h0, ⟨e, _⟩ | ⟨ma, ⟨_, b, rfl⟩, e, _⟩ | ⟨ma, ⟨mb, ⟨_, b, rfl⟩, _, rfl⟩, e, _⟩ | ⟨ma, ⟨mc, ⟨mb, ⟨_, b, rfl⟩, _, rfl⟩, _, rfl⟩, e, _⟩⟩
  · exact h0
  · exact e.trans eC
  · obtain ⟨c1, c2, c3, c4⟩ := cz b
    exact e.trans (appendE_zero (on_create h _ _) c4 bs (by rw [c1, c2, c3]; exact hr))
  · exact e.trans (onE_zero (on_append (on_create h _ _) _ _) (by rw [now_append]; exact (cz b).2.2.2))
  · exact e.trans (on_sync (on_append (on_create h _ _) _ _) _).act.2
theorem wres_zero {m m1 : M} {bs : S} {en : Nat} (h : On m) (G : Shf.Good m.now) (F : m.now = Shf.ages m.safe m.moves) (hg : get m.now besN = none) (hr : (m.named + m.gone + bs.length : Int) ≤ m.room) (hb : WRes m idxN bs en m1) : en = 0 := by
  have cz := create_sz h G F besN (by decide) hg
  have eC := (create_on h G F besN (by decide) hg).1
  have ok : nameOk idxN = true := by decide
  rcases hb with ⟨h0, _⟩ | ⟨h0, ⟨e, _⟩ | ⟨ma, ⟨_, b, rfl, _⟩, e, _⟩ | ⟨ma, ⟨mb, ⟨_, b, rfl, _⟩, _, rfl⟩, e, _⟩ | ⟨ma, ⟨mc, ⟨mb, ⟨_, b, rfl, _⟩, _, rfl⟩, _, rfl⟩, e, _⟩ | ⟨ma, ⟨md, ⟨mc, ⟨mb, ⟨_, b, rfl, _⟩, _, rfl⟩, _, rfl⟩, _, rfl⟩, e, _⟩⟩
  · exact h0
  · exact e.trans eC
  · obtain ⟨c1, c2, c3, c4⟩ := cz b
    exact e.trans (appendE_zero (on_create h _ _) c4 bs (by rw [c1, c2, c3]; exact hr))
  · exact e.trans (onE_zero (on_append (on_create h _ _) _ _) (by rw [now_append]; exact (cz b).2.2.2))
  · refine e.trans ?_
    unfold Shf.M.renameE
    rw [ok]
    exact onE_zero (on_sync (on_append (on_create h _ _) _ _) _) (by rw [now_sync, now_append]; exact (cz b).2.2.2)
  · refine e.trans ?_
    have o := on_sync (on_append (on_create h besN b) besN bs) besN
    have o2 : On ((((m.create besN b).append besN bs).sync besN).rename besN idxN) := by
      unfold Shf.M.rename
      rw [o.act.1]
      split
      · exact o
      · split
        · exact ⟨o.f, o.a⟩
        · split
          · exact ⟨o.f, o.a⟩
          · unfold Shf.M.lose
            split <;> exact ⟨o.f, o.a⟩
    exact o2.act.2
structure CG (c : CD) (m : M) : Prop where
  on : On m
  ages : m.now = Shf.ages m.safe m.moves
  good : Shf.Good m.now
  mv : m.moves = []
  idx : fileOf m idxN = some (headB c.hF c.hB c.hU) ∧ Synced m idxN
  ba : c.hB ≠ 0 → fileOf m (bName c.hB) = some (pack 98 c.base) ∧ Synced m (bName c.hB) ∧ c.base.length ≤ 1048576
  b0 : c.hB = 0 → c.base = []
  vo : ∀ d ∈ c.vols, fileOf m (vName d.no) = some (volB d) ∧ VolOk d ∧ 0 < d.first
  sy : ∀ d ∈ c.vols.dropLast, Synced m (vName d.no)
  nos : ∀ (i : Nat) (d : VolD), c.vols[i]? = some d → d.no = c.hF + i
  fi : ∀ (i : Nat) (d d' : VolD), c.vols[i]? = some d → c.vols[i + 1]? = some d' → d'.first = d.next
  f0 : ∀ d : VolD, c.vols[0]? = some d → d.first ≤ c.hU + 1
  up : c.hU < c.next
  only : ∀ s, get m.now s ≠ none → s = idxN ∨ (c.hB ≠ 0 ∧ s = bName c.hB) ∨ ∃ d ∈ c.vols, s = vName d.no
  nf : c.full = false
theorem CG.clean {c : CD} {m : M} (h : CG c m) : tidyM c.own m = (0, m) := by
  refine tidy_clean h.on (fun s hs => ?_) h.mv
  unfold CD.own CD.own0
  rcases h.only s hs with e | ⟨hb, e⟩ | ⟨d, hd, e⟩
  · refine List.mem_append_right _ ?_
    split <;> simp [e]
  · refine List.mem_append_right _ ?_
    rw [if_neg hb, e]
    simp
  · exact List.mem_append_left _ (List.mem_map.2 ⟨d, hd, e.symm⟩)
theorem nextNo_at {c : CD} {m : M} (h : CG c m) : c.nextNo = c.hF + c.vols.length := by
  by_cases h0 : c.vols = []
  · unfold CD.nextNo
    rw [h0]
    rfl
  · have hp := List.length_pos_iff.2 h0
    have e := getLast_at c.vols hp
    unfold CD.nextNo
    rw [e]
    have := h.nos (c.vols.length - 1) _ (List.getElem?_eq_getElem (by omega))
    show (c.vols[c.vols.length - 1]'(by omega)).no + 1 = _
    rw [this]
    omega
theorem CG.nogot {c : CD} {m : M} (h : CG c m) (hsz : c.hF + c.vols.length < 100) (hB : c.hB < 100) (n : Nat) (hn : n < 100) (hge : ∀ i, i < c.vols.length → n ≠ c.hF + i) : get m.now (vName n) = none := by
  cases hg : get m.now (vName n) with
  | none => rfl
  | some b =>
    rcases h.only (vName n) (by rw [hg]; simp) with e | ⟨_, e⟩ | ⟨d, hd, e⟩
    · exact absurd e (vn_idx n hn).1
    · exact absurd e (vn_bn n c.hB hn hB)
    · obtain ⟨i, hi, rfl⟩ := List.getElem_of_mem hd
      have e2 := h.nos i _ (List.getElem?_eq_getElem hi)
      have e3 := vn_ne n _ hn (by rw [e2]; omega) e
      exact absurd (e3.trans e2) (hge i hi)
theorem head_len : (headB 1 0 0).length ≤ 50 := by decide +kernel
theorem open_fresh {m : M} {mo : Nat} {en : Nat} {m' : M} {c' : CD} (h : On m) (hnow : m.now = []) (hmv : m.moves = []) (hs : m.safe = []) (hr : (m.named + m.gone + 50 : Int) ≤ m.room) (ho : OpenM ⟨mo, 1, 0, 0, [], [], false⟩ true m en m' c') (G1 : Shf.Good m'.now) : en = 0 ∧ c' = ⟨mo, 1, 0, 0, [], [], false⟩ ∧ CG c' m' ∧ m'.room = m.room ∧ m'.named + m'.gone ≤ m.named + 50 ∧ m'.done ≤ m.done + 5 ∧ Nms m' 3 := by
  have hno : ∀ s, get m.now s = none := fun s => by rw [hnow]; rfl
  have hnx : (⟨mo, 1, 0, 0, [], [], false⟩ : CD).nextNo = 1 := rfl
  obtain ⟨e1, m1, ⟨e2, m2, ⟨c1, ⟨n, ht⟩, hc1⟩, ht2⟩, h3⟩ := ho
  have hE : m.readE (vName 1) = 2 := by rw [h.readE]; unfold fileOf; rw [hno]; rfl
  have hv : ∀ {ok e m' c'}, TvM ⟨mo, 1, 0, 0, [], [], false⟩ m ok e m' c' → ok = false ∧ e = 0 ∧ m' = m ∧ c' = ⟨mo, 1, 0, 0, [], [], false⟩ := fun {ok e m' c'} hx => by
    rcases hx with ⟨_, h1, h2, h3, h4⟩ | ⟨h0, _⟩ | ⟨h0, _⟩
    · exact ⟨h1, h2, h3, h4⟩
    · rw [hnx, hE] at h0; cases h0
    · rw [hnx, hE] at h0; cases h0
  have hn : n = 0 := by
    cases n with
    | zero => rfl
    | succ n =>
      obtain ⟨_, _, _, hx, _⟩ := ht
      have := (hv hx).1
      cases this
  subst hn
  obtain ⟨_, rfl, rfl, rfl⟩ := hv ht
  have hc' : c' = ⟨mo, 1, 0, 0, [], [], false⟩ := hc1
  have G0 : Shf.Good m2.now := by rw [hnow]; exact Shf.Good.nil
  have F0 : m2.now = Shf.ages m2.safe m2.moves := by rw [hnow, hmv, hs]; rfl
  have hty : tidyM c'.own m2 = (0, m2) := tidy_clean h (fun s hs => absurd (hno s) hs) hmv
  obtain ⟨he1, hm1⟩ : e1 = 0 ∧ m1 = m2 := by
    rcases ht2 with ⟨h0, _⟩ | ⟨_, h1, h2⟩
    · exact absurd rfl h0
    · rw [hty] at h1 h2; exact ⟨h1, h2⟩
  rcases h3 with ⟨_, _, h3⟩ | ⟨h3, _⟩
  · obtain ⟨e4, m4, ⟨hw, _⟩, h4⟩ := h3
    rw [hm1] at hw
    have hlen := head_len
    have hz := wres_zero h G0 F0 (hno _) (by omega) hw
    rcases h4 with ⟨_, rfl, rfl⟩ | ⟨h4, _⟩
    · obtain ⟨_, nw, hbn⟩ := write_ok h G0 F0 (hno _) (hno _) (by omega) hw G1
      have ws := wres_small hw (by decide) (k := 0) ⟨by rw [hnow]; exact Nat.le_refl _, fun p hp => by rw [hnow] at hp; cases hp⟩
      refine ⟨rfl, hc', ?_, nw.room, ?_, ws.1, ws.2.2⟩
      · rw [hc']
        refine ⟨nw.on, by rw [nw.moves, nw.safe]; rfl, G1, nw.moves, ⟨nw.is, nw.sy⟩, fun h => absurd rfl h, fun _ => rfl, fun d hd => (by cases hd), fun d hd => (by cases hd), fun i d hd => (by simp at hd), fun i d d' hd => (by simp at hd), fun d hd => (by simp at hd), by show 0 < 0 + 1; decide, fun s hs => ?_, rfl⟩
        by_cases e : s = idxN
        · exact Or.inl e
        · rw [nw.get s e] at hs
          exact absurd (hno s) hs
      · rw [nw.gone]
        have := nw.named
        omega
    · exact absurd hz h4
  · exact absurd ⟨rfl, he1⟩ h3
end Go.Proofs.YtdbhgkbmbbjpdaaGreatDoor.Chr
namespace Go.Proofs.YtdbhgkbmbbjpdaaGreatDoor.Chr
open Go.ChangeShapes Go.WideShapes Go.ChangeAt Go.RowKit
open Shf (S str)
open Coin (Rd Row Own sz coin got Pur takeV endV CoinSaid)
open Frm (pack err size kind cnt body noItem itemV OneSaid)
set_option maxRecDepth 8000
set_option linter.unusedVariables false
open Shf (Tag Ext Rep M RdN get Fine nameOk act_now ages wo wi Mv)
theorem titleB_len2 (a b : Nat) : (titleB a b).length ≤ 50 := by
  unfold titleB
  rw [Frm.length_pack]
  have h1 := coins_len [a, b]
  have h2 := Coin.sz_le (coins [a, b]).length
  simp only [List.length_cons, List.length_nil] at h1
  omega
def AllSync (c : CD) (m : M) : Prop := ∀ d ∈ c.vols, Synced m (vName d.no)
structure CN (c : CD) : Prop where
  no : c.hF + c.vols.length < 99
  hB : c.hB < 99
theorem CG.no_lt {c : CD} {m : M} (h : CG c m) (N : CN c) {d : VolD} (hd : d ∈ c.vols) : d.no < 99 := by
  obtain ⟨i, hi, rfl⟩ := List.getElem_of_mem hd
  rw [h.nos i _ (List.getElem?_eq_getElem hi)]
  have := N.no
  omega
theorem CG.keep {c : CD} {m m' : M} {nm l : S} (h : CG c m) (s : Stp m m' nm l) (hf : fileOf m nm = some l) (hs : Synced m nm → Synced m' nm) : CG c m' := by
  have f : ∀ t, fileOf m' t = fileOf m t := fun t => by
    by_cases e : t = nm
    · rw [e, s.is, hf]
    · exact (s.rest t e).1
  have sy : ∀ t, Synced m t → Synced m' t := fun t x => by
    by_cases e : t = nm
    · rw [e] at x ⊢; exact hs x
    · exact (s.rest t e).2 x
  exact ⟨s.on, by rw [s.now, s.safe, s.moves]; exact h.ages, by rw [s.now]; exact h.good, by rw [s.moves]; exact h.mv, ⟨(f _).trans h.idx.1, sy _ h.idx.2⟩, fun hb => ⟨(f _).trans (h.ba hb).1, sy _ (h.ba hb).2.1, (h.ba hb).2.2⟩, h.b0, fun d hd => ⟨(f _).trans (h.vo d hd).1, (h.vo d hd).2⟩, fun d hd => sy _ (h.sy d hd), h.nos, h.fi, h.f0, h.up, fun t ht => h.only t (by rw [← s.now]; exact ht), h.nf⟩
theorem CG.sync {c : CD} {m : M} (h : CG c m) : (syM c m).1 = 0 ∧ CG c (syM c m).2 ∧ AllSync c (syM c m).2 ∧ (syM c m).2.room = m.room ∧ (syM c m).2.named + (syM c m).2.gone = m.named + m.gone := by
  by_cases h0 : c.vols = []
  · have e : syM c m = (0, m) := by unfold syM; rw [h0]; rfl
    rw [e]
    exact ⟨rfl, h, (fun d hd => by rw [h0] at hd; cases hd), rfl, rfl⟩
  · obtain ⟨l, d, hl⟩ : ∃ l d, c.vols = l ++ [d] := ⟨c.vols.dropLast, c.vols.getLast h0, (List.dropLast_concat_getLast h0).symm⟩
    have e : syM c m = (m.onE (vName d.no), m.sync (vName d.no)) := by unfold syM; rw [hl]; simp
    have hd : d ∈ c.vols := by rw [hl]; simp
    obtain ⟨k1, k2, k3, k4⟩ := sync_on h.on h.good (h.vo d hd).1
    rw [e]
    have hk := h.keep k2 (h.vo d hd).1 (fun _ => k4)
    refine ⟨k1, hk, fun x hx => ?_, k2.room, by rw [k3, k2.gone]⟩
    rw [hl] at hx
    rcases List.mem_append.1 hx with hx | hx
    · exact hk.sy x (by rw [hl]; simpa using hx)
    · rw [List.mem_singleton.1 hx]; exact k4
theorem snoc_at {l : List VolD} {d : VolD} {i : Nat} {y : VolD} (h : (l ++ [d])[i]? = some y) : (i < l.length ∧ l[i]? = some y) ∨ (i = l.length ∧ y = d) := by
  rcases Nat.lt_trichotomy i l.length with hi | hi | hi
  · left
    rw [List.getElem?_append_left hi] at h
    exact ⟨hi, h⟩
  · right
    rw [hi, List.getElem?_append_right (Nat.le_refl _), Nat.sub_self] at h
    injection h with h
    exact ⟨hi, h.symm⟩
  · rw [List.getElem?_eq_none (by simp; omega)] at h; cases h
theorem snoc_lt {l : List VolD} {d : VolD} {i : Nat} (hi : i < l.length) : (l ++ [d])[i]? = l[i]? := List.getElem?_append_left hi
theorem snoc_last (l : List VolD) (d : VolD) : (l ++ [d])[l.length]? = some d := by
  rw [List.getElem?_append_right (Nat.le_refl _), Nat.sub_self]; rfl
theorem CG.more {c : CD} {m : M} (h : CG c m) (N : CN c) {l : List VolD} {d : VolD} (hl : c.vols = l ++ [d]) (k : UInt8) (p : S) (hp : p.length ≤ 1048576) (hr : (m.named + m.gone + (pack k p).length : Int) ≤ m.room) :
    m.appendE (vName d.no) (pack k p) = 0 ∧ CG (atlC c l d k p 0) (m.append (vName d.no) (pack k p)) ∧ (m.append (vName d.no) (pack k p)).room = m.room ∧ (m.append (vName d.no) (pack k p)).named + (m.append (vName d.no) (pack k p)).gone = m.named + m.gone + (pack k p).length := by
  have hd : d ∈ c.vols := by rw [hl]; simp
  obtain ⟨v1, v2, v3⟩ := h.vo d hd
  obtain ⟨e0, s, nd⟩ := append_on h.on h.good v1 (pack k p) hr
  obtain ⟨w1, w2⟩ := v2.more k p hp
  have hdn := h.no_lt N hd
  have hdi : d.no = c.hF + l.length := h.nos l.length d (by rw [hl]; exact snoc_last l d)
  have hne : ∀ (i : Nat) (x : VolD), l[i]? = some x → vName x.no ≠ vName d.no := fun i x hx e => by
    have hi := (List.getElem?_eq_some_iff.1 hx).1
    have e1 := h.nos i x (by rw [hl, snoc_lt hi]; exact hx)
    have hxm : x ∈ c.vols := by rw [hl]; exact List.mem_append_left _ (List.mem_of_getElem? hx)
    have := vn_ne _ _ (by have := h.no_lt N hxm; omega) (by omega) e
    omega
  have hnm : ∀ x ∈ l, vName x.no ≠ vName d.no := fun x hx => by
    obtain ⟨i, hi, rfl⟩ := List.getElem_of_mem hx
    exact hne i _ (List.getElem?_eq_getElem hi)
  have hE : atlC c l d k p 0 = {c with vols := l ++ [{d with its := d.its ++ [⟨k, p, d.size, d.size + (pack k p).length⟩], size := d.size + (pack k p).length}]} := rfl
  rw [hE]
  refine ⟨e0, ⟨s.on, by rw [s.now, s.safe, s.moves]; exact h.ages, by rw [s.now]; exact h.good, by rw [s.moves]; exact h.mv, ⟨(s.rest _ (Ne.symm (vn_idx d.no (by omega)).1)).1.trans h.idx.1, (s.rest _ (Ne.symm (vn_idx d.no (by omega)).1)).2 h.idx.2⟩, fun hb => ?_, h.b0, fun x hx => ?_, fun x hx => ?_, fun i x hx => ?_, fun i x y hx hy => ?_, fun x hx => ?_, ?_, fun t ht => ?_, h.nf⟩, s.room, by rw [nd, s.gone]; omega⟩
  · have hb' : c.hB ≠ 0 := hb
    have ne : bName c.hB ≠ vName d.no := Ne.symm (vn_bn d.no c.hB (by omega) (by have := N.hB; omega))
    exact ⟨(s.rest _ ne).1.trans (h.ba hb').1, (s.rest _ ne).2 (h.ba hb').2.1, (h.ba hb').2.2⟩
  · rcases List.mem_append.1 hx with hx | hx
    · have hx2 := h.vo x (by rw [hl]; exact List.mem_append_left _ hx)
      exact ⟨(s.rest _ (hnm x hx)).1.trans hx2.1, hx2.2⟩
    · rw [List.mem_singleton.1 hx]
      exact ⟨by show fileOf _ (vName d.no) = _; rw [s.is, w2], w1, v3⟩
  · have hx : x ∈ (l ++ [_]).dropLast := hx
    rw [List.dropLast_concat] at hx
    exact (s.rest _ (hnm x hx)).2 (h.sy x (by rw [hl, List.dropLast_concat]; exact hx))
  · rcases snoc_at hx with ⟨hi, hx⟩ | ⟨rfl, rfl⟩
    · exact h.nos i x (by rw [hl, snoc_lt hi]; exact hx)
    · exact hdi
  · rcases snoc_at hx with ⟨hi, hx⟩ | ⟨rfl, rfl⟩
    · have hx2 : c.vols[i]? = some x := by rw [hl, snoc_lt hi]; exact hx
      rcases snoc_at hy with ⟨hj, hy⟩ | ⟨hj, rfl⟩
      · exact h.fi i x y hx2 (by rw [hl, snoc_lt hj]; exact hy)
      · exact h.fi i x d hx2 (by rw [hl, hj]; exact snoc_last l d)
    · rcases snoc_at hy with ⟨hj, _⟩ | ⟨hj, _⟩ <;> omega
  · rcases snoc_at hx with ⟨hi, hx⟩ | ⟨hi, rfl⟩
    · exact h.f0 x (by rw [hl, snoc_lt hi]; exact hx)
    · exact h.f0 d (by rw [hl, hi]; exact snoc_last l d)
  · have hu := h.up
    have n1 : c.next = d.first + d.its.length := by unfold CD.next; rw [hl]; simp [VolD.next]
    show c.hU < CD.next _
    have n2 : CD.next {c with vols := l ++ [{d with its := d.its ++ [⟨k, p, d.size, d.size + (pack k p).length⟩], size := d.size + (pack k p).length}]} = d.first + (d.its.length + 1) := by unfold CD.next; simp [VolD.next]
    rw [n2]
    omega
  · rcases h.only t (by rw [← s.now]; exact ht) with e | e | ⟨x, hx, e⟩
    · exact Or.inl e
    · exact Or.inr (Or.inl e)
    · rw [hl] at hx
      rcases List.mem_append.1 hx with hx | hx
      · exact Or.inr (Or.inr ⟨x, List.mem_append_left _ hx, e⟩)
      · rw [List.mem_singleton.1 hx] at e
        exact Or.inr (Or.inr ⟨_, List.mem_append_right _ (List.mem_singleton.2 rfl), e⟩)
theorem CG.newVol {c : CD} {m m1 : M} (h : CG c m) (hs : AllSync c m) (N : CN c) (hnx : c.next < 1000000000) (hb : Nw9 m m1 (vName c.nextNo) (titleB c.nextNo c.next)) : CG {c with vols := c.vols ++ [newV c]} m1 := by
  have hno := nextNo_at h
  have hlt : c.nextNo < 99 := by rw [hno]; exact N.no
  have hne : ∀ x ∈ c.vols, vName x.no ≠ vName c.nextNo := fun x hx e => by
    obtain ⟨i, hi, rfl⟩ := List.getElem_of_mem hx
    have e1 := h.nos i _ (List.getElem?_eq_getElem hi)
    have := vn_ne _ _ (by have := h.no_lt N (List.getElem_mem hi); omega) (by omega) e
    omega
  have hi1 : idxN ≠ vName c.nextNo := Ne.symm (vn_idx _ (by omega)).1
  refine ⟨hb.on, by rw [hb.moves, hb.safe]; rfl, hb.good, hb.moves, ⟨(hb.rest _ hi1).1.trans h.idx.1, (hb.rest _ hi1).2 h.idx.2⟩, fun hB => ?_, h.b0, fun x hx => ?_, fun x hx => ?_, fun i x hx => ?_, fun i x y hx hy => ?_, fun x hx => ?_, ?_, fun t ht => ?_, h.nf⟩
  · have hB' : c.hB ≠ 0 := hB
    have ne : bName c.hB ≠ vName c.nextNo := Ne.symm (vn_bn _ c.hB (by omega) (by have := N.hB; omega))
    exact ⟨(hb.rest _ ne).1.trans (h.ba hB').1, (hb.rest _ ne).2 (h.ba hB').2.1, (h.ba hB').2.2⟩
  · rcases List.mem_append.1 hx with hx | hx
    · exact ⟨(hb.rest _ (hne x hx)).1.trans (h.vo x hx).1, (h.vo x hx).2⟩
    · rw [List.mem_singleton.1 hx]
      have hu := h.up
      refine ⟨?_, ⟨by show c.nextNo < _; omega, by show c.next < _; omega, (fun y hy => by cases hy), rfl⟩, by show 0 < c.next; omega⟩
      show fileOf m1 (vName c.nextNo) = some (titleB c.nextNo c.next ++ [])
      rw [hb.is, List.append_nil]
  · have hx : x ∈ (c.vols ++ [newV c]).dropLast := hx
    rw [List.dropLast_concat] at hx
    exact (hb.rest _ (hne x hx)).2 (hs x hx)
  · rcases snoc_at hx with ⟨hi, hx⟩ | ⟨rfl, rfl⟩
    · exact h.nos i x hx
    · exact hno
  · rcases snoc_at hx with ⟨hi, hx⟩ | ⟨rfl, rfl⟩
    · rcases snoc_at hy with ⟨hj, hy⟩ | ⟨hj, rfl⟩
      · exact h.fi i x y hx hy
      · show c.next = x.next
        have e : c.vols.getLast? = some x := by rw [List.getLast?_eq_getElem?, show c.vols.length - 1 = i by omega]; exact hx
        unfold CD.next
        rw [e]
    · rcases snoc_at hy with ⟨hj, _⟩ | ⟨hj, _⟩ <;> omega
  · rcases snoc_at hx with ⟨hi, hx⟩ | ⟨hi, rfl⟩
    · exact h.f0 x hx
    · show c.next ≤ c.hU + 1
      have e : c.vols = [] := List.eq_nil_of_length_eq_zero hi.symm
      unfold CD.next
      rw [e]
      exact Nat.le_refl _
  · show c.hU < CD.next _
    have n2 : CD.next {c with vols := c.vols ++ [newV c]} = c.next := by
      show (match (c.vols ++ [newV c]).getLast? with | none => c.hU + 1 | some d => d.next) = _
      simp [VolD.next, newV]
    rw [n2]
    exact h.up
  · by_cases e : t = vName c.nextNo
    · exact Or.inr (Or.inr ⟨newV c, List.mem_append_right _ (List.mem_singleton.2 rfl), e⟩)
    · rw [hb.get t e] at ht
      rcases h.only t ht with e | e | ⟨x, hx, e⟩
      · exact Or.inl e
      · exact Or.inr (Or.inl e)
      · exact Or.inr (Or.inr ⟨x, List.mem_append_left _ hx, e⟩)
theorem append_sz {m : M} (h : On m) {nm : S} {b : Nat} (hg : get m.now nm = some b) (p : S) (hr : (m.named + m.gone + p.length : Int) ≤ m.room) : (m.append nm p).named = m.named + p.length ∧ (m.append nm p).gone = m.gone ∧ (m.append nm p).room = m.room := by
  have h1 : ¬ (m.named + m.gone + p.length : Int) > m.room := by omega
  unfold Shf.M.append
  rw [h.onF, hg, h.act.1]
  simp only [h1, if_false]
  exact ⟨trivial, trivial, trivial⟩
theorem bst4 {m m1 : M} {nm bs : S} (h : On m) (G : Shf.Good m.now) (F : m.now = Shf.ages m.safe m.moves) (hn : nameOk nm = true) (hg : get m.now nm = none) (hr : (m.named + m.gone + bs.length : Int) ≤ m.room) (hb : BSt m nm bs 4 m1) : On m1 ∧ (∃ b, get m1.now nm = some b) ∧ m1.named + m1.gone ≤ m.named + m.gone + bs.length ∧ m1.room = m.room := by
  obtain ⟨md, ⟨mc, ⟨mb, ⟨_, b, rfl⟩, _, rfl⟩, _, rfl⟩, _, rfl⟩ := hb
  obtain ⟨c1, c2, c3, c4⟩ := create_sz h G F nm hn hg b
  have o1 := on_create h nm b
  have o2 := on_append o1 nm bs
  have o3 := on_sync o2 nm
  obtain ⟨a1, a2, a3⟩ := append_sz o1 c4 bs (by rw [c1, c2, c3]; exact hr)
  have g2 : get ((m.create nm b).append nm bs).now nm = some b := by rw [now_append]; exact c4
  have e3 : (((m.create nm b).append nm bs).sync nm) = ((m.create nm b).append nm bs).act.file b ((((m.create nm b).append nm bs).fl b).1, (((m.create nm b).append nm bs).fl b).1.length) := by
    rw [show ((m.create nm b).append nm bs).sync nm = _ from rfl]
    conv => lhs; unfold Shf.M.sync
    rw [o2.onF, g2]
  have e4 : (((m.create nm b).append nm bs).sync nm).names = {(((m.create nm b).append nm bs).sync nm).act with safe := Shf.ages (((m.create nm b).append nm bs).sync nm).safe (((m.create nm b).append nm bs).sync nm).moves, moves := [], gone := 0} := by
    conv => lhs; unfold Shf.M.names
    rw [o3.act.2]
    simp
  refine ⟨?_, ⟨b, by rw [now_names, now_sync]; exact g2⟩, ?_, ?_⟩
  · rw [e4, o3.act.1]; exact ⟨o3.f, o3.a⟩
  · rw [e4, o3.act.1]
    show (((m.create nm b).append nm bs).sync nm).named + 0 ≤ _
    rw [e3, o2.act.1]
    show ((m.create nm b).append nm bs).named + 0 ≤ _
    rw [a1, c1]
    omega
  · rw [e4, o3.act.1]
    show (((m.create nm b).append nm bs).sync nm).room = _
    rw [e3, o2.act.1]
    show ((m.create nm b).append nm bs).room = _
    rw [a3, c3]
theorem CG.add {c : CD} {m : M} (h : CG c m) (N : CN c) (N1 : c.hF + c.vols.length < 98) (hnx : c.next < 1000000000) (k : UInt8) (p : S) (hp : p.length ≤ 1048576) (hr : (m.named + m.gone + 50 + (pack k p).length : Int) ≤ m.room) {e : Nat} {m' : M} {c' : CD} (ha : AdM c m k p e m' c') (G1 : Shf.Good m'.now) :
    e = 0 ∧ CG c' m' ∧ m'.room = m.room ∧ m'.named + m'.gone ≤ m.named + m.gone + 50 + (pack k p).length ∧
      ((∃ l d, c.vols = l ++ [d] ∧ d.size < c.most ∧ c' = atlC c l d k p 0) ∨ ((∀ l d, c.vols = l ++ [d] → ¬ d.size < c.most) ∧ c' = atlC {c with vols := c.vols ++ [newV c]} c.vols (newV c) k p 0)) := by
  rcases ha with ⟨l, d, hl, hlt, he, rfl, hc⟩ | ⟨hno, h2⟩
  · obtain ⟨k1, k2, k3, k4⟩ := h.more N hl k p hp (by omega)
    rw [k1] at he
    rw [he] at hc
    rw [hc]
    exact ⟨he, k2, k3, by omega, Or.inl ⟨l, d, hl, hlt, rfl⟩⟩
  · obtain ⟨s1, s2, s3, s4, s5⟩ := h.sync
    rcases h2 with ⟨h0, _⟩ | ⟨_, en, mb, cb, hb, h3⟩
    · exact absurd s1 h0
    · have hnn : c.nextNo < 99 := by rw [nextNo_at h]; exact N.no
      have hg : get (syM c m).2.now (vName c.nextNo) = none := s2.nogot (by have := N.no; omega) (by have := N.hB; omega) c.nextNo (by omega) (fun i hi e => by rw [nextNo_at h] at e; omega)
      have htl := titleB_len2 c.nextNo c.next
      have hrr : ((syM c m).2.named + (syM c m).2.gone + (titleB c.nextNo c.next).length : Int) ≤ (syM c m).2.room := by rw [s4]; omega
      obtain ⟨en1, m1, ⟨hres, _⟩, hcase⟩ := hb
      have hz := bres_zero s2.on s2.good s2.ages (vn_ok _ (by omega)) hg hrr hres
      rcases hcase with ⟨_, rfl, rfl, hcb⟩ | ⟨h0, _⟩
      · rcases hres with ⟨_, hb4⟩ | ⟨h0, _⟩
        · obtain ⟨o1, ⟨b, gb⟩, sz1, rm1⟩ := bst4 s2.on s2.good s2.ages (vn_ok _ (by omega)) hg hrr hb4
          have ez := appendE_zero o1 gb (pack k p) (by rw [rm1, s4]; omega)
          rcases h3 with ⟨h0, _⟩ | ⟨_, _, h4⟩
          · exact absurd rfl h0
          · rcases h4 with ⟨_, he, rfl, rfl⟩ | ⟨h5, _⟩
            · rw [now_append] at G1
              obtain ⟨_, nw⟩ := begin_ok s2.on s2.good s2.ages (vn_ok _ (by omega)) hg hrr (Or.inl ⟨hz, hb4⟩ : BRes _ _ _ en1 _) G1
              have cg := s2.newVol s3 N hnx nw
              have N2 : CG {c with vols := c.vols ++ [newV c]} mb := cg
              have hd1 : (newV c).no = c.nextNo := rfl
              -- the numbers are one more
              obtain ⟨k1, k2, k3, k4⟩ := cg.more ⟨by show c.hF + (c.vols ++ [newV c]).length < 99; simp; omega, N.hB⟩ (l := c.vols) (d := newV c) rfl k p hp (by rw [rm1, s4]; omega)
              have k5 : (mb.append (vName c.nextNo) (pack k p)).named + (mb.append (vName c.nextNo) (pack k p)).gone = mb.named + mb.gone + (pack k p).length := k4
              exact ⟨he, k2, k3.trans (rm1.trans s4), by omega, Or.inr ⟨hno, rfl⟩⟩
            · exact absurd ez h5
        · exact absurd hz h0
      · exact absurd hz h0
theorem CG.fall {c : CD} {m : M} (h : CG c m) (F : Fine m) (hs : AllSync c m) (names bytes : Int) (F2 : Fine (m.fall names bytes)) : CG c (m.fall names bytes) ∧ (m.fall names bytes).room = m.room ∧ (m.fall names bytes).named + (m.fall names bytes).gone ≤ m.named + m.gone ∧ AllSync c (m.fall names bytes) := by
  have hsafe : m.now = m.safe := by have := h.ages; rw [h.mv] at this; exact this
  have hnow : (m.fall names bytes).now = m.now := by
    show Shf.ages m.safe (m.moves.take _) = _
    rw [h.mv, List.take_nil, hsafe]
    rfl
  have hall : ∀ t, Synced m t := fun t b hb => by
    rcases h.only t (by rw [hb]; simp) with e | ⟨hB, e⟩ | ⟨d, hd, e⟩
    · rw [e] at hb; exact h.idx.2 b hb
    · rw [e] at hb; exact (h.ba hB).2.1 b hb
    · rw [e] at hb; exact hs d hd b hb
  have hfl : ∀ t b, get m.now t = some b → ((m.fall names bytes).fl b).1 = (m.fl b).1 ∧ ((m.fall names bytes).fl b).2 = (m.fl b).2 := fun t b hb => by
    have e := hall t b hb
    have hL : Shf.ages m.safe (m.moves.take (min names.toNat m.moves.length)) = m.now := hnow
    show (Shf.fallF m.fl (Shf.ages m.safe (m.moves.take (min names.toNat m.moves.length))) bytes b).1 = _ ∧ (Shf.fallF m.fl (Shf.ages m.safe (m.moves.take (min names.toNat m.moves.length))) bytes b).2 = _
    rw [hL]
    have hl : Shf.left (m.fl b) bytes = (m.fl b).1.length := by unfold Shf.left; rw [e]; simp
    have ha : m.now.any (fun p => p.2 == b) = true := by
      rw [List.any_eq_true]
      exact ⟨(t, b), Shf.mem_get hb, by simp⟩
    unfold Shf.fallF
    rw [if_pos ha, hl]
    exact ⟨List.take_length, e.symm⟩
  have f : ∀ t, fileOf (m.fall names bytes) t = fileOf m t := fun t => by
    unfold fileOf
    rw [hnow]
    cases hb : get m.now t with
    | none => rfl
    | some b => show some ((m.fall names bytes).fl b).1 = some (m.fl b).1; rw [(hfl t b hb).1]
  have sy : ∀ t, Synced (m.fall names bytes) t := fun t b hb => by
    rw [hnow] at hb
    rw [(hfl t b hb).1, (hfl t b hb).2]
    exact hall t b hb
  refine ⟨⟨⟨rfl, rfl⟩, F2.now, F2.goodNow, rfl, ⟨(f _).trans h.idx.1, sy _⟩, fun hB => ⟨(f _).trans (h.ba hB).1, sy _, (h.ba hB).2.2⟩, h.b0, fun d hd => ⟨(f _).trans (h.vo d hd).1, (h.vo d hd).2⟩, fun d hd => sy _, h.nos, h.fi, h.f0, h.up, fun t ht => h.only t (by rw [← hnow]; exact ht), h.nf⟩, rfl, ?_, fun d hd => sy _⟩
  have h1 : (m.fall names bytes).named = Shf.tot (Shf.fallF m.fl (Shf.ages m.safe (m.moves.take (min names.toNat m.moves.length))) bytes) (Shf.ages m.safe (m.moves.take (min names.toNat m.moves.length))) := rfl
  have h2 : Shf.ages m.safe (m.moves.take (min names.toNat m.moves.length)) = m.now := hnow
  have h3 := Shf.tot_fall_le m.fl m.now m.now bytes
  rw [h2] at h1
  have h4 := F.named
  show _ + 0 ≤ _
  omega
theorem CG.most {c : CD} {m : M} (h : CG c m) (mo : Nat) : CG {c with most := mo} m := ⟨h.on, h.ages, h.good, h.mv, h.idx, h.ba, h.b0, h.vo, h.sy, h.nos, h.fi, h.f0, h.up, h.only, h.nf⟩
theorem CG.tvs {c : CD} {m : M} (h : CG c m) (N : CN c) (mo : Nat) : ∀ (n k : Nat) (e : Nat) (m' : M) (c' : CD), k ≤ c.vols.length → TvsN n {c with most := mo, vols := c.vols.take k} m e m' c' → e = 0 ∧ m' = m ∧ c' = {c with most := mo}
  | n, k, e, m', c', hk, ht => by
    obtain ⟨ck, hck⟩ : ∃ x : CD, x = {c with most := mo, vols := c.vols.take k} := ⟨_, rfl⟩
    have hvk : ck.vols = c.vols.take k := by rw [hck]
    have hN := N.no
    have hlast : ∀ j, k = j + 1 → (c.vols.take k).getLast? = c.vols[j]? := fun j hj => by
      rw [List.getLast?_eq_getElem?, List.length_take, Nat.min_eq_left hk, List.getElem?_take_of_lt (by omega), hj]
      rfl
    have hno : ck.nextNo = c.hF + k := by
      unfold CD.nextNo
      rw [hvk]
      cases k with
      | zero => rw [hck]; rfl
      | succ j =>
        rw [hlast j rfl, List.getElem?_eq_getElem (by omega)]
        show (c.vols[j]'(by omega)).no + 1 = _
        rw [h.nos j _ (List.getElem?_eq_getElem (by omega))]
        omega
    have hnx0 : k = 0 → ck.next = c.hU + 1 := fun h0 => by
      unfold CD.next
      rw [hvk, h0, List.take_zero, hck]
      rfl
    have hnxj : ∀ (j : Nat) (d : VolD), k = j + 1 → c.vols[j]? = some d → ck.next = d.next := fun j d hj hd => by
      unfold CD.next
      rw [hvk, hlast j hj, hd]
    have hv : ∀ {ok : Bool} {e : Nat} {m' : M} {c' : CD}, TvM ck m ok e m' c' → m' = m ∧ e = 0 ∧ ((k = c.vols.length ∧ ok = false ∧ c' = ck) ∨ (k < c.vols.length ∧ ok = true ∧ c' = {c with most := mo, vols := c.vols.take (k + 1)})) := fun {ok e m' c'} hx => by
      by_cases hkl : k < c.vols.length
      · have hd := List.getElem?_eq_getElem hkl
        obtain ⟨d, hdd⟩ : ∃ d, d = c.vols[k] := ⟨_, rfl⟩
        rw [← hdd] at hd
        have hdm : d ∈ c.vols := by rw [hdd]; exact List.getElem_mem _
        obtain ⟨v1, v2, v3⟩ := h.vo d hdm
        have dn := h.nos k d hd
        rw [dn] at v1
        obtain ⟨i1, i2⟩ := volIs_of v2
        have hrE : m.readE (vName ck.nextNo) = 0 := by rw [hno, h.on.readE, v1]
        have hrP : m.readP (vName ck.nextNo) = volB d := by rw [hno, h.on.readP, v1]; rfl
        have hfo : ck.follows d.first = true := by
          unfold CD.follows
          rw [hvk]
          cases hk0 : k with
          | zero =>
            rw [hk0] at hd
            have h5 : ck.next = c.hU + 1 := hnx0 hk0
            rw [if_pos (by simp), h5]
            exact decide_eq_true (h.f0 d hd)
          | succ j =>
            have hne : ¬ c.vols.take (j + 1) = [] := fun e => by
              have := congrArg List.length e
              rw [List.length_take, List.length_nil] at this
              omega
            rw [if_neg hne]
            have hj := List.getElem?_eq_getElem (show j < c.vols.length by omega)
            have h5 : ck.next = (c.vols[j]'(by omega)).next := hnxj j _ hk0 hj
            rw [h5]
            rw [hk0] at hd
            exact decide_eq_true (h.fi j _ d hj hd)
        rcases hx with ⟨h0, _⟩ | ⟨_, h1, _⟩ | ⟨_, d', h1, h2, h3, h4, h5, h6, h7, h8⟩
        · exact absurd hrE h0
        · rw [hrP] at h1
          exact absurd ⟨v3, dn.trans hno.symm, hfo⟩ (h1 d i1)
        · rw [hrP] at h1 h8
          have e := volIs_one h1 i1
          subst e
          rcases h8 with ⟨h8, _⟩ | ⟨_, h9, h10⟩
          · omega
          · refine ⟨h10, h9, Or.inr ⟨hkl, by rw [h7, h9]; rfl, ?_⟩⟩
            rw [h6, hvk, hck]
            have et : c.vols.take (k + 1) = c.vols.take k ++ [d'] := by rw [List.take_add_one, hd]; rfl
            rw [et]
      · have hke : k = c.vols.length := by omega
        have hnone := h.nogot (by omega) (by have := N.hB; omega) (c.hF + k) (by omega) (fun i hi e => by omega)
        have hrE : m.readE (vName ck.nextNo) ≠ 0 := by rw [hno, h.on.readE]; unfold fileOf; rw [hnone]; show (2 : Nat) ≠ 0; decide
        rcases hx with ⟨_, h1, h2, h3, h4⟩ | ⟨h0, _⟩ | ⟨h0, _⟩
        · exact ⟨h3, h2, Or.inl ⟨hke, h1, h4⟩⟩
        · exact absurd h0 hrE
        · exact absurd h0 hrE
    rw [← hck] at ht
    match n, ht with
    | 0, ht =>
      obtain ⟨r1, r2, ⟨r3, _, r4⟩ | ⟨_, r4, _⟩⟩ := hv ht
      · refine ⟨r2, r1, ?_⟩
        rw [r4, hck, r3, List.take_length]
      · cases r4
    | n + 1, ⟨e1, m1, c1, h1, h2⟩ =>
      obtain ⟨r1, r2, ⟨_, r3, _⟩ | ⟨r3, _, r4⟩⟩ := hv h1
      · cases r3
      · rw [r1, r4] at h2
        exact CG.tvs h N mo n (k + 1) e m' c' (by omega) h2
theorem CG.again {c : CD} {m : M} (h : CG c m) (N : CN c) (mo : Nat) {en : Nat} {m' : M} {c' : CD} (ho : OpenM {c with most := mo, vols := []} false m en m' c') : en = 0 ∧ m' = m ∧ c' = {c with most := mo} := by
  obtain ⟨e1, m1, ⟨e2, m2, ⟨c1, ⟨n, ht⟩, hc1⟩, ht2⟩, h3⟩ := ho
  obtain ⟨r1, r2, r3⟩ := h.tvs N mo n 0 e2 m2 c1 (Nat.zero_le _) (by rw [List.take_zero]; exact ht)
  have hup : decide (c1.next ≤ c1.hU) = false := by
    rw [r3]
    have hu := h.up
    exact decide_eq_false (by show ¬ c.next ≤ c.hU; omega)
  rw [hup] at hc1
  have hc' : c' = {c with most := mo} := hc1.trans r3
  have hty : tidyM c'.own m2 = (0, m) := by rw [r2, hc']; exact (h.most mo).clean
  obtain ⟨he1, hm1⟩ : e1 = 0 ∧ m1 = m := by
    rcases ht2 with ⟨h0, _⟩ | ⟨_, h1, h2⟩
    · exact absurd r1 h0
    · rw [hty] at h1 h2; exact ⟨h1, h2⟩
  rcases h3 with ⟨h0, _⟩ | ⟨_, h1, h2⟩
  · cases h0
  · exact ⟨h1.trans he1, h2.trans hm1, hc'⟩
end Go.Proofs.YtdbhgkbmbbjpdaaGreatDoor.Chr
namespace Go.Proofs.YtdbhgkbmbbjpdaaGreatDoor.Chr
variable {lo : Nat}
open Go.ChangeShapes Go.WideShapes Go.ChangeAt Go.RowKit
open Shf (S str)
open Coin (Rd Row Own sz coin got Pur takeV endV CoinSaid)
open Frm (pack err size kind cnt body noItem itemV OneSaid)
set_option maxRecDepth 8000
set_option linter.unusedVariables false
open Shf (Tag Ext Rep M RdN get Fine nameOk act_now ages wo wi Mv)
theorem adm_ok {c : CD} {m : M} {k : UInt8} {p : S} {m' : M} {c' : CD} (ha : AdM c m k p 0 m' c') (hno : c.nextNo < 100) {K : Nat} (hk : Nms m K) : m'.done ≤ m.done + 7 ∧ Nms m' (K + 2) := by
  rcases ha with ⟨l, d, hl, hlt, he, rfl, hc⟩ | ⟨_, h2⟩
  · have := sm_append m (vName d.no) (pack k p)
    exact ⟨by omega, nms_mono (nms_append hk _ _) (by omega)⟩
  · rcases h2 with ⟨h0, he, _⟩ | ⟨_, en, mb, cb, hb, h3⟩
    · exact absurd he.symm h0
    · rcases h3 with ⟨h0, he, _⟩ | ⟨rfl, _, h4⟩
      · exact absurd he.symm h0
      · obtain ⟨hres, _⟩ := bg_zero hb
        have sk : Nms (syM c m).2 K := by
          unfold syM
          split
          · exact hk
          · exact nms_sync hk _
        have ss := syM_small c m
        obtain ⟨b1, b2, b3⟩ := bres_small hres (vName_le _ hno) sk
        rcases h4 with ⟨_, _, rfl, _⟩ | ⟨h5, he, _⟩
        · have := sm_append mb (vName c.nextNo) (pack k p)
          exact ⟨by omega, nms_append b3 _ _⟩
        · unfold undoM at he
          split at he
          · exact absurd he.symm h5
          · rename_i h6; exact absurd he.symm h6
structure CZ (c : CD) (m : M) : Prop where
  hU : c.hU ≤ 1000000
  sz : ∀ d ∈ c.vols, d.size ≤ 800000
  bs : c.base.length ≤ 800000
  dn : m.done ≤ 500000
  ns : Nms m 4000
  rm : -1000000000000 ≤ m.room
theorem CG.tvi {c : CD} {m : M} (h : CG c m) (N : CN c) (Z : CZ c m) (mo : Nat) : TvI {c with most := mo, vols := []} m := by
  have hN := N.no
  have hZ := Z.hU
  have hd := Z.dn
  refine ⟨⟨by show c.hF < _; omega, by show c.hU < _; omega, Nat.zero_le _, fun d hd => by cases hd⟩, by show c.hF ≤ 99; omega, ?_, by show 0 + (99 - c.hF) ≤ 500; omega, by show m.done + (99 - c.hF) ≤ 700000; omega, fun s => ?_, ?_, fun d hd => by cases hd⟩
  · show c.hU + 1 + (99 - c.hF) * 900000 ≤ 500000000
    have : (99 - c.hF) * 900000 ≤ 99 * 900000 := Nat.mul_le_mul_right _ (by omega)
    omega
  · rw [h.on.readP]
    cases hg : get m.now s with
    | none => unfold fileOf; rw [hg]; exact Nat.zero_le _
    | some b =>
      rcases h.only s (by rw [hg]; simp) with e | ⟨hB, e⟩ | ⟨d, hd, e⟩
      · rw [e, h.idx.1]
        show (headB _ _ _).length ≤ _
        unfold headB
        rw [Frm.length_pack]
        have h1 := coins_len [c.hF, c.hB, c.hU]
        have h2 := Coin.sz_le (coins [c.hF, c.hB, c.hU]).length
        simp only [List.length_cons, List.length_nil] at h1
        omega
      · rw [e, (h.ba hB).1]
        show (pack _ _).length ≤ _
        rw [Frm.length_pack]
        have h2 := Coin.sz_le c.base.length
        have h3 := Z.bs
        omega
      · rw [e, (h.vo d hd).1]
        show (volB d).length ≤ _
        rw [← (volIs_of (h.vo d hd).2.1).2]
        have := Z.sz d hd
        omega
  · rw [h.on.readE]
    unfold fileOf
    rw [h.nogot (by omega) (by have := N.hB; omega) 99 (by omega) (fun i hi e => by omega)]
    show (2 : Nat) ≠ 0
    decide
theorem open_cg (w : World) (T : Nat → Tag) (q : Nat) (m : M) (c : CD) (mo : Nat) (R : Rep w T q m) (h : CG c m) (N : CN c) (Z : CZ c m) (hlo : lo ≤ w.heap.size) :
    Calls Tryz.prog 11 #[.pointer (some ⟨q, 0, none⟩), .int .i64 (mo : Int)] w fun e w' => ∃ p T', e = .returned (.tuple #[.pointer (some ⟨p, 0, none⟩), .int .i64 0]) ∧ Rep w' T' q m ∧ CAt lo w' T' p q {c with most := mo} ∧ Kq lo w T w' T' ∧ w.heap.size ≤ p := by
  have hN := N.no
  have hNB := N.hB
  have hZ := Z.hU
  have he : m.readE idxN = 0 := by rw [h.on.readE, h.idx.1]
  have hp : m.readP idxN = headB c.hF c.hB c.hU := by rw [h.on.readP, h.idx.1]; rfl
  obtain ⟨r1, r2, r3, r4⟩ := head_read c.hF c.hB c.hU (by omega) (by omega) (by omega)
  rw [← hp] at r1 r2 r3 r4
  have I := h.tvi N Z mo
  have fin : ∀ e w', OpSaid w.heap.size w T q m {c with most := mo, vols := []} false e w' → ∃ p T', e = .returned (.tuple #[.pointer (some ⟨p, 0, none⟩), .int .i64 0]) ∧ Rep w' T' q m ∧ CAt lo w' T' p q {c with most := mo} ∧ Kq lo w T w' T' ∧ w.heap.size ≤ p := fun e w' ⟨p, en, m', c', T', e1, ho, R', C', K', hps⟩ => by
    obtain ⟨rfl, rfl, rfl⟩ := h.again N mo ho
    exact ⟨p, T', e1, R', C'.mono hlo, K'.mono hlo, hps⟩
  by_cases hB : c.hB = 0
  · have hc : (⟨mo, valP (body (m.readP idxN)) 0, valP (body (m.readP idxN)) 1, valP (body (m.readP idxN)) 2, [], [], false⟩ : CD) = {c with most := mo, vols := []} := by
      rw [r2, r3, r4, ← h.b0 hB, ← h.nf]
    refine (open_old w T q m mo R he r1 (by rw [r3]; exact hB) (by rw [hc]; exact I) (by rw [r3]; omega) Z.ns (by have := Z.dn; omega) Z.rm).mono fun e w' ho => ?_
    rw [hc] at ho
    exact fin e w' ho
  · obtain ⟨b1, b2, b3⟩ := h.ba hB
    have hbp : m.readP (bName c.hB) = pack 98 c.base := by rw [h.on.readP, b1]; rfl
    have hbe : m.readE (bName c.hB) = 0 := by rw [h.on.readE, b1]
    have k := Frm.err_pack 98 c.base [] b3
    rw [List.append_nil] at k
    obtain ⟨k1, k2, k3, k4⟩ := k
    have hc : (⟨mo, valP (body (m.readP idxN)) 0, valP (body (m.readP idxN)) 1, valP (body (m.readP idxN)) 2, (body (m.readP (bName (valP (body (m.readP idxN)) 1)))), [], false⟩ : CD) = {c with most := mo, vols := []} := by
      rw [r2, r3, r4, hbp, k3, ← h.nf]
    refine (open_oldB w T q m mo R he r1 (by rw [r3]; exact hB) (by rw [r3]; exact hbe) (by rw [r3, hbp]; unfold whole; rw [k1, k2]; simp) (by rw [r3, hbp, k4]; rfl) (by rw [hc]; exact I) (by rw [r3]; omega) Z.ns (by have := Z.dn; omega) Z.rm).mono fun e w' ho => ?_
    rw [hc] at ho
    exact fin e w' ho
end Go.Proofs.YtdbhgkbmbbjpdaaGreatDoor.Chr
