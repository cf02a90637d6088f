/- A new volume, an index: where nothing goes wrong. -/
import Derived.Test.YtdbhgkbmbbjpdaaGreatDoorOb
namespace Go.Proofs.YtdbhgkbmbbjpdaaGreatDoor.Chr
open Go.ChangeShapes Go.WideShapes Go.ChangeAt Go.RowKit
open Shf (S str)
open Coin (Rd Row Own sz coin got Pur takeV endV CoinSaid)
open Frm (pack err size kind cnt body noItem itemV OneSaid)
set_option maxRecDepth 8000
set_option linter.unusedVariables false
open Shf (Tag Ext Rep M RdN get Fine nameOk act_now ages wo wi Mv)
theorem vn_ok (n : Nat) (h : n < 100) : nameOk (vName n) = true := by
  have : ∀ n : Fin 100, nameOk (vName n.1) = true := by decide +kernel
  exact this ⟨n, h⟩
theorem vn_ne (i j : Nat) (hi : i < 100) (hj : j < 100) (h : vName i = vName j) : i = j := by
  have : ∀ i j : Fin 100, vName i.1 = vName j.1 → i.1 = j.1 := by decide +kernel
  exact this ⟨i, hi⟩ ⟨j, hj⟩ h
theorem vn_idx (i : Nat) (hi : i < 100) : vName i ≠ idxN ∧ vName i ≠ besN := by
  have : ∀ i : Fin 100, vName i.1 ≠ idxN ∧ vName i.1 ≠ besN := by decide +kernel
  exact this ⟨i, hi⟩
theorem vn_bn (i j : Nat) (hi : i < 100) (hj : j < 100) : vName i ≠ bName j := by
  have : ∀ i j : Fin 100, vName i.1 ≠ bName j.1 := by decide +kernel
  exact this ⟨i, hi⟩ ⟨j, hj⟩
theorem now_append (m : M) (nm p : S) : (m.append nm p).now = m.now := by
  unfold Shf.M.append
  split
  · exact (act_now m).1
  · split <;> exact (act_now m).1
theorem now_sync (m : M) (nm : S) : (m.sync nm).now = m.now := by
  unfold Shf.M.sync
  split <;> exact (act_now m).1
theorem now_names (m : M) : m.names.now = m.now := by
  unfold Shf.M.names
  split <;> exact (act_now m).1
theorem on_append {m : M} (h : On m) (nm p : S) : On (m.append nm p) := by
  unfold Shf.M.append
  rw [h.act.1]
  split
  · exact ⟨h.f, h.a⟩
  · split <;> exact ⟨h.f, h.a⟩
theorem on_sync {m : M} (h : On m) (nm : S) : On (m.sync nm) := by
  unfold Shf.M.sync
  rw [h.act.1]
  split <;> exact ⟨h.f, h.a⟩
theorem on_create {m : M} (h : On m) (nm : S) (b : Nat) : On (m.create nm b) := by
  unfold Shf.M.create
  rw [h.act.1]
  split
  · exact h
  · split
    · exact ⟨h.f, h.a⟩
    · split <;> exact ⟨h.f, h.a⟩
theorem ages_snoc (l : List (S × Nat)) (vs : List Mv) (v : Mv) : ages l (vs ++ [v]) = v.on (ages l vs) := by
  unfold Shf.ages
  rw [List.foldl_append]
  rfl
structure Nw (m mm : M) (nm l : S) : Prop where
  on : On mm
  good : Shf.Good mm.now
  now : ∃ b, mm.now = m.now ++ [(nm, b)]
  ages : mm.now = Shf.ages mm.safe mm.moves
  room : mm.room = m.room
  gone : mm.gone = m.gone
  named : mm.named = m.named + l.length
  is : fileOf mm nm = some l
  rest : ∀ t, t ≠ nm → fileOf mm t = fileOf m t ∧ (Synced m t → Synced mm t)
theorem create_on {m : M} (h : On m) (G : Shf.Good m.now) (F : m.now = Shf.ages m.safe m.moves) (nm : S) (hn : nameOk nm = true) (hg : get m.now nm = none) : m.createE nm = 0 ∧ ∀ b, (m.create nm b).now = m.now ++ [(nm, b)] ∧ (Shf.Good (m.create nm b).now → Nw m (m.create nm b) nm []) := by
  have eE : m.createE nm = 0 := by unfold Shf.M.createE; rw [hn, h.act.2, hg]; simp
  have hw : wo m.now [] = m.now := Shf.wo_self fun p hp => G.ne p hp
  have hw2 : wo m.now nm = m.now := Shf.wo_self fun p hp e => by
    have h2 := Shf.get_none.1 hg p.2
    exact h2 (by rw [← e]; exact hp)
  have eN : Mv.on ⟨[], nm, some 0⟩ m.now = m.now ++ [(nm, 0)] := by
    show wi (wo m.now []) nm 0 = _
    rw [hw]; unfold Shf.wi; rw [hw2]
  refine ⟨eE, fun b => ?_⟩
  have eN : Mv.on ⟨[], nm, some b⟩ m.now = m.now ++ [(nm, b)] := by
    show wi (wo m.now []) nm b = _
    rw [hw]; unfold Shf.wi; rw [hw2]
  have eM : m.create nm b = (m.act.file b ([], 0)).mv ⟨[], nm, some b⟩ := by unfold Shf.M.create; rw [hn, h.act.2, hg]; simp
  have eNow : (m.create nm b).now = m.now ++ [(nm, b)] := by
    rw [eM, h.act.1]
    exact eN
  refine ⟨eNow, fun G2 => ?_⟩
  have hgb : get (m.now ++ [(nm, b)]) nm = some b := by rw [Shf.get_app, hg]; simp [Shf.get]
  have hgt : ∀ t, t ≠ nm → get (m.now ++ [(nm, b)]) t = get m.now t := fun t ht => by
    rw [Shf.get_app]
    cases get m.now t with
    | some c => rfl
    | none => simp [Shf.get, Ne.symm ht]
  have hne : ∀ t c, t ≠ nm → get m.now t = some c → c ≠ b := fun t c ht hc => by
    rw [eNow] at G2
    exact get_ne G2 (by rw [hgt t ht]; exact hc) hgb ht
  refine ⟨?_, G2, ⟨b, eNow⟩, ?_, ?_, ?_, ?_, ?_, fun t ht => ⟨?_, fun hs c hc => ?_⟩⟩
  · rw [eM, h.act.1]; exact ⟨h.f, h.a⟩
  · rw [eNow, eM, h.act.1]
    show _ = Shf.ages m.safe (m.moves ++ [_])
    rw [ages_snoc, ← F, eN]
  · rw [eM, h.act.1]; rfl
  · rw [eM, h.act.1]; rfl
  · rw [eM, h.act.1]; rfl
  · unfold fileOf
    rw [eNow, hgb, eM, h.act.1]
    show some (if b = b then (([], 0) : S × Nat) else m.fl b).1 = _
    rw [if_pos rfl]
  · unfold fileOf
    rw [eNow, hgt t ht, eM, h.act.1]
    cases hc : get m.now t with
    | none => rfl
    | some c =>
      show some (if c = b then (([], 0) : S × Nat) else m.fl c).1 = _
      rw [if_neg (hne t c ht hc)]
      rfl
  · rw [eNow, hgt t ht] at hc
    rw [eM, h.act.1]
    show (if c = b then (([], 0) : S × Nat) else m.fl c).2 = (if c = b then (([], 0) : S × Nat) else m.fl c).1.length
    rw [if_neg (hne t c ht hc)]
    exact hs c hc
theorem Nw.app {m mm : M} {nm l : S} (h : Nw m mm nm l) (p : S) (hr : (mm.named + mm.gone + p.length : Int) ≤ mm.room) : mm.appendE nm p = 0 ∧ Nw m (mm.append nm p) nm (l ++ p) := by
  obtain ⟨e, s, nd⟩ := append_on h.on h.good h.is p hr
  refine ⟨e, ⟨s.on, by rw [s.now]; exact h.good, by rw [s.now]; exact h.now, by rw [s.now, s.safe, s.moves]; exact h.ages, s.room.trans h.room, s.gone.trans h.gone, by rw [nd, h.named, List.length_append]; omega, s.is, fun t ht => ⟨(s.rest t ht).1.trans (h.rest t ht).1, fun hs => (s.rest t ht).2 ((h.rest t ht).2 hs)⟩⟩⟩
theorem Nw.sync {m mm : M} {nm l : S} (h : Nw m mm nm l) : mm.onE nm = 0 ∧ Nw m (mm.sync nm) nm l ∧ Synced (mm.sync nm) nm := by
  obtain ⟨e, s, nd, sy⟩ := sync_on h.on h.good h.is
  exact ⟨e, ⟨s.on, by rw [s.now]; exact h.good, by rw [s.now]; exact h.now, by rw [s.now, s.safe, s.moves]; exact h.ages, s.room.trans h.room, s.gone.trans h.gone, by rw [nd, h.named], s.is, fun t ht => ⟨(s.rest t ht).1.trans (h.rest t ht).1, fun hs => (s.rest t ht).2 ((h.rest t ht).2 hs)⟩⟩, sy⟩
structure Nw9 (m mm : M) (nm l : S) : Prop where
  on : On mm
  good : Shf.Good mm.now
  get : ∀ t, t ≠ nm → get mm.now t = get m.now t
  safe : mm.safe = mm.now
  moves : mm.moves = []
  room : mm.room = m.room
  gone : mm.gone = 0
  named : mm.named ≤ m.named + l.length
  is : fileOf mm nm = some l
  sy : Synced mm nm
  rest : ∀ t, t ≠ nm → fileOf mm t = fileOf m t ∧ (Synced m t → Synced mm t)
theorem get_more (l : List (S × Nat)) (nm : S) (b : Nat) (t : S) (ht : t ≠ nm) : Shf.get (l ++ [(nm, b)]) t = Shf.get l t := by
  rw [Shf.get_app]
  cases Shf.get l t with
  | some c => rfl
  | none => simp [Shf.get, Ne.symm ht]
theorem Nw.names {m mm : M} {nm l : S} (h : Nw m mm nm l) (hs : Synced mm nm) : mm.actE = 0 ∧ Nw9 m mm.names nm l := by
  obtain ⟨e, o, n1, n2, n3, n4, n5, n6, n7, n8⟩ := names_on h.on h.ages
  have hf : ∀ t, fileOf mm.names t = fileOf mm t := fun t => by unfold fileOf; rw [n1, n8]
  have hsy : ∀ t, Synced mm t → Synced mm.names t := fun t hs b hb => by
    rw [n1] at hb
    rw [n8]
    exact hs b hb
  obtain ⟨b, hb⟩ := h.now
  exact ⟨e, ⟨o, by rw [n1]; exact h.good, fun t ht => by rw [n1, hb]; exact get_more _ _ _ t ht, by rw [n2, n1], n3, n4.trans h.room, n6, by rw [n7, h.named]; omega, (hf nm).trans h.is, hsy nm hs, fun t ht => ⟨(hf t).trans (h.rest t ht).1, fun x => hsy t ((h.rest t ht).2 x)⟩⟩⟩
theorem begin_ok {m m1 : M} {nm bs : S} {en : Nat} (h : On m) (G : Shf.Good m.now) (F : m.now = Shf.ages m.safe m.moves) (hn : nameOk nm = true) (hg : get m.now nm = none) (hr : (m.named + m.gone + bs.length : Int) ≤ m.room) (hb : BRes m nm bs en m1) (G1 : Shf.Good m1.now) : en = 0 ∧ Nw9 m m1 nm bs := by
  obtain ⟨eC, hC⟩ := create_on h G F nm hn hg
  have s1 : ∀ ma, BSt m nm bs 1 ma → Shf.Good ma.now → ma.appendE nm bs = 0 ∧ Nw m (ma.append nm bs) nm bs := fun ma ha Ga => by
    obtain ⟨_, b, rfl⟩ := ha
    have n1 := (hC b).2 Ga
    have n2 := n1.app bs (by rw [n1.named, n1.gone, n1.room]; exact hr)
    rw [List.nil_append] at n2
    exact n2
  have s2 : ∀ ma, BSt m nm bs 2 ma → Shf.Good ma.now → ma.onE nm = 0 ∧ Nw m (ma.sync nm) nm bs ∧ Synced (ma.sync nm) nm := fun ma ha Ga => by
    obtain ⟨mb, hb, _, rfl⟩ := ha
    exact (s1 mb hb (by rw [now_append] at Ga; exact Ga)).2.sync
  have s3 : ∀ ma, BSt m nm bs 3 ma → Shf.Good ma.now → ma.actE = 0 ∧ Nw9 m ma.names nm bs := fun ma ha Ga => by
    obtain ⟨mb, hb, _, rfl⟩ := ha
    have s := s2 mb hb (by rw [now_sync] at Ga; exact Ga)
    exact s.2.1.names s.2.2
  rcases hb with ⟨h0, hb⟩ | ⟨h0, ⟨e, _⟩ | ⟨ma, ha, e, rfl⟩ | ⟨ma, ha, e, rfl⟩ | ⟨ma, ha, e, rfl⟩⟩
  · obtain ⟨ma, ha, _, rfl⟩ := hb
    exact ⟨h0, (s3 ma ha (by rw [now_names] at G1; exact G1)).2⟩
  · exact absurd (e.trans eC) h0
  · exact absurd (e.trans (s1 ma ha (by rw [now_append] at G1; exact G1)).1) h0
  · exact absurd (e.trans (s2 ma ha (by rw [now_sync] at G1; exact G1)).1) h0
  · exact absurd (e.trans (s3 ma ha (by rw [now_names] at G1; exact G1)).1) h0
theorem tidy_clean {own : List S} {m : M} (h : On m) (hl : ∀ s, get m.now s ≠ none → s ∈ own) (hm : m.moves = []) : tidyM own m = (0, m) := by
  have hall : ∀ l : List S, (∀ s ∈ l, s ∈ own) → tidyL own l m = (0, m) := fun l => by
    induction l with
    | nil => intro _; rfl
    | cons s l ih =>
      intro hs
      unfold tidyL
      rw [if_pos (hs s List.mem_cons_self)]
      exact ih fun t ht => hs t (List.mem_cons_of_mem _ ht)
  have hmem : ∀ s ∈ m.list, s ∈ own := fun s hs => by
    unfold Shf.M.list at hs
    rw [h.f] at hs
    simp only [Bool.false_eq_true, if_false, List.mem_mergeSort, List.mem_map] at hs
    obtain ⟨p, hp, rfl⟩ := hs
    refine hl p.1 fun e => ?_
    exact Shf.get_none.1 e p.2 hp
  unfold tidyM tidyEnd
  rw [hall _ hmem]
  simp [hm]
theorem write_ok {m m1 : M} {bs : S} {en : Nat} (h : On m) (G : Shf.Good m.now) (F : m.now = Shf.ages m.safe m.moves) (hi : get m.now idxN = none) (hg : get m.now besN = none) (hr : (m.named + m.gone + bs.length : Int) ≤ m.room) (hb : WRes m idxN bs en m1) (G1 : Shf.Good m1.now) : en = 0 ∧ Nw9 m m1 idxN bs ∧ get m1.now besN = none := by
  obtain ⟨eC, hC⟩ := create_on h G F besN (by decide) hg
  have s1 : ∀ ma, WSt m idxN bs 1 ma → Shf.Good ma.now → ma.appendE besN bs = 0 ∧ Nw m (ma.append besN bs) besN bs := fun ma ha Ga => by
    obtain ⟨_, b, rfl, _⟩ := ha
    have n1 := (hC b).2 Ga
    have n2 := n1.app bs (by rw [n1.named, n1.gone, n1.room]; exact hr)
    rw [List.nil_append] at n2
    exact n2
  have s2 : ∀ ma, WSt m idxN bs 2 ma → Shf.Good ma.now → ma.onE besN = 0 ∧ Nw m (ma.sync besN) besN bs ∧ Synced (ma.sync besN) besN := fun ma ha Ga => by
    obtain ⟨mb, hb, _, rfl⟩ := ha
    exact (s1 mb hb (by rw [now_append] at Ga; exact Ga)).2.sync
  have hbi : besN ≠ idxN := by decide
  have ok : nameOk idxN = true := by decide
  have hkeys : ∀ b, wo (m.now ++ [(besN, b)]) besN = m.now := fun b => by
    have e := Shf.wo_self (l := m.now) (s := besN) fun p hp e => Shf.get_none.1 hg p.2 (by rw [← e]; exact hp)
    unfold Shf.wo at e ⊢
    rw [List.filter_append, e]
    simp
  have hwi : wo m.now idxN = m.now := Shf.wo_self fun p hp e => Shf.get_none.1 hi p.2 (by rw [← e]; exact hp)
  have hgb : ∀ b, get (m.now ++ [(besN, b)]) besN = some b := fun b => by rw [Shf.get_app, hg]; simp [Shf.get]
  have hgi : ∀ b, get (m.now ++ [(besN, b)]) idxN = none := fun b => by rw [get_more _ _ _ _ (Ne.symm hbi), hi]
  have hon : ∀ b, (Mv.on ⟨besN, idxN, some b⟩ (m.now ++ [(besN, b)])) = m.now ++ [(idxN, b)] := fun b => by
    show wi (wo (m.now ++ [(besN, b)]) besN) idxN b = _
    rw [hkeys]
    unfold Shf.wi
    rw [hwi]
  -- what is renamed
  have ren : ∀ (mc : M) (b : Nat), On mc → mc.now = m.now ++ [(besN, b)] → mc.renameE besN idxN = 0 ∧ mc.rename besN idxN = mc.act.mv ⟨besN, idxN, some b⟩ ∧ (mc.rename besN idxN).now = m.now ++ [(idxN, b)] := fun mc b hc hb => by
    have eE : mc.renameE besN idxN = 0 := by
      unfold Shf.M.renameE Shf.M.onE
      rw [ok, hc.act.2, hb, hgb]
      simp
    have eM : mc.rename besN idxN = mc.act.mv ⟨besN, idxN, some b⟩ := by
      unfold Shf.M.rename
      rw [ok, hc.onF, hb, hgb]
      simp only [Bool.true_eq_false, if_false, if_neg hbi]
      have el : mc.act.lose idxN = mc.act := by
        unfold Shf.M.lose
        rw [(act_now mc).1, hb, hgi]
      rw [el]
    refine ⟨eE, eM, ?_⟩
    rw [eM]
    show Mv.on ⟨besN, idxN, some b⟩ mc.act.now = _
    rw [(act_now mc).1, hb, hon]
  have now3 : ∀ mc, WSt m idxN bs 3 mc → On mc ∧ ∃ b, mc.now = m.now ++ [(besN, b)] := fun mc hc => by
    obtain ⟨mb, ⟨ma, ⟨_, b, rfl, _⟩, _, rfl⟩, _, rfl⟩ := hc
    refine ⟨on_sync (on_append (on_create h _ _) _ _) _, b, ?_⟩
    rw [now_sync, now_append, (hC b).1]
  have good3 : ∀ (mc : M) (b : Nat), mc.now = m.now ++ [(besN, b)] → Shf.Good (m.now ++ [(idxN, b)]) → Shf.Good mc.now := fun mc b hb G2 => by
    have h1 := G.wi besN b (by decide) (fun t ht hm => by
      have e := G2.one (List.mem_append_left _ hm) (List.mem_append_right _ (List.mem_singleton.2 rfl) : (idxN, b) ∈ m.now ++ [(idxN, b)])
      rw [e] at hm
      exact Shf.get_none.1 hi b hm)
    have hw2 : wo m.now besN = m.now := Shf.wo_self fun p hp e => Shf.get_none.1 hg p.2 (by rw [← e]; exact hp)
    unfold Shf.wi at h1
    rw [hw2] at h1
    rw [hb]
    exact h1
  rcases hb with ⟨h0, hb⟩ | ⟨h0, ⟨e, _⟩ | ⟨ma, ha, e, rfl⟩ | ⟨ma, ha, e, rfl⟩ | ⟨ma, ha, e, rfl⟩ | ⟨ma, ha, e, rfl⟩⟩
  · obtain ⟨md, ⟨mc, hc, _, rfl⟩, _, rfl⟩ := hb
    obtain ⟨oc, b, hnb⟩ := now3 mc hc
    obtain ⟨_, eM, eNow⟩ := ren mc b oc hnb
    rw [now_names, eNow] at G1
    have Gc := good3 mc b hnb G1
    have hcc := hc
    obtain ⟨mb, hb2, _, rfl⟩ := hcc
    obtain ⟨_, n3, sy⟩ := s2 mb hb2 (by rw [now_sync] at Gc; exact Gc)
    have hgn : get (m.now ++ [(idxN, b)]) idxN = some b := by rw [Shf.get_app, hi]; simp [Shf.get]
    have hfl : ((mb.sync besN).rename besN idxN).fl = (mb.sync besN).fl := by rw [eM, oc.act.1]; rfl
    have hgt : ∀ t, t ≠ idxN → t ≠ besN → get ((mb.sync besN).rename besN idxN).now t = get (mb.sync besN).now t := fun t h1 h2 => by
      rw [eNow, get_more _ _ _ _ h1, hnb, get_more _ _ _ _ h2]
    have hbn : get ((mb.sync besN).rename besN idxN).now besN = none := by rw [eNow, get_more _ _ _ _ hbi, hg]
    have hisb : get (mb.sync besN).now besN = some b := by rw [hnb, hgb]
    have nw : Nw m ((mb.sync besN).rename besN idxN) idxN bs := by
      refine ⟨by rw [eM, oc.act.1]; exact ⟨oc.f, oc.a⟩, by rw [eNow]; exact G1, ⟨b, eNow⟩, ?_, by rw [eM, oc.act.1]; exact n3.room, by rw [eM, oc.act.1]; exact n3.gone, by rw [eM, oc.act.1]; exact n3.named, ?_, fun t ht => ⟨?_, fun hs c hc => ?_⟩⟩
      · rw [eNow, eM, oc.act.1]
        show _ = Shf.ages (mb.sync besN).safe ((mb.sync besN).moves ++ [_])
        rw [ages_snoc, ← n3.ages, hnb, hon]
      · have hi2 := n3.is
        unfold fileOf at hi2 ⊢
        rw [hisb] at hi2
        rw [eNow, hgn, hfl]
        exact hi2
      · by_cases h2 : t = besN
        · unfold fileOf
          rw [h2, hbn, hg]
          rfl
        · have := (n3.rest t h2).1
          unfold fileOf at this ⊢
          rw [hgt t ht h2, hfl]
          exact this
      · by_cases h2 : t = besN
        · rw [h2, hbn] at hc; cases hc
        · rw [hgt t ht h2] at hc
          rw [hfl]
          exact (n3.rest t h2).2 hs c hc
    have sy2 : Synced ((mb.sync besN).rename besN idxN) idxN := fun c hc => by
      rw [eNow, hgn] at hc
      injection hc with hc
      rw [hfl, ← hc]
      exact sy b hisb
    exact ⟨h0, (nw.names sy2).2, by rw [now_names]; exact hbn⟩
  · exact absurd (e.trans eC) h0
  · exact absurd (e.trans (s1 ma ha (by rw [now_append] at G1; exact G1)).1) h0
  · exact absurd (e.trans (s2 ma ha (by rw [now_sync] at G1; exact G1)).1) h0
  · obtain ⟨oc, b, hnb⟩ := now3 ma ha
    exact absurd (e.trans (ren ma b oc hnb).1) h0
  · obtain ⟨mc, hc, _, rfl⟩ := ha
    obtain ⟨oc, b, hnb⟩ := now3 mc hc
    have o : On (mc.rename besN idxN) := by rw [(ren mc b oc hnb).2.1, oc.act.1]; exact ⟨oc.f, oc.a⟩
    exact absurd (e.trans o.act.2) h0
end Go.Proofs.YtdbhgkbmbbjpdaaGreatDoor.Chr
