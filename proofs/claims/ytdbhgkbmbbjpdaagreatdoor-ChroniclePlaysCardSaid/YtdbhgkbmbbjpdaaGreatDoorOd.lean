/- A chronicle and its shelf, where nothing goes wrong: opened anew, a record more, all safe. -/
import Derived.Test.YtdbhgkbmbbjpdaaGreatDoorOc
namespace Go.Proofs.YtdbhgkbmbbjpdaaGreatDoor.Chr
open Go.ChangeShapes Go.WideShapes Go.ChangeAt Go.RowKit
open Shf (S str)
open Coin (Rd Row Own sz coin got Pur takeV endV CoinSaid)
open Frm (pack err size kind cnt body noItem itemV OneSaid)
set_option maxRecDepth 8000
set_option linter.unusedVariables false
open Shf (Tag Ext Rep M RdN get Fine nameOk act_now ages wo wi Mv)
theorem create_sz {m : M} (h : On m) (G : Shf.Good m.now) (F : m.now = Shf.ages m.safe m.moves) (nm : S) (hn : nameOk nm = true) (hg : get m.now nm = none) (b : Nat) : (m.create nm b).named = m.named ∧ (m.create nm b).gone = m.gone ∧ (m.create nm b).room = m.room ∧ get (m.create nm b).now nm = some b := by
  have eM : m.create nm b = (m.act.file b ([], 0)).mv ⟨[], nm, some b⟩ := by unfold Shf.M.create; rw [hn, h.act.2, hg]; simp
  refine ⟨by rw [eM, h.act.1]; rfl, by rw [eM, h.act.1]; rfl, by rw [eM, h.act.1]; rfl, ?_⟩
  rw [((create_on h G F nm hn hg).2 b).1, Shf.get_app, hg]
  simp [Shf.get]
theorem appendE_zero {m : M} (h : On m) {nm : S} {b : Nat} (hg : get m.now nm = some b) (p : S) (hr : (m.named + m.gone + p.length : Int) ≤ m.room) : m.appendE nm p = 0 := by
  have h1 : ¬ (m.named + m.gone + p.length : Int) > m.room := by omega
  unfold Shf.M.appendE
  rw [h.onF, hg]
  simp only [h1, if_false]
theorem onE_zero {m : M} (h : On m) {nm : S} {b : Nat} (hg : get m.now nm = some b) : m.onE nm = 0 := by
  unfold Shf.M.onE
  rw [h.act.2, hg]
  simp
theorem bres_zero {m m1 : M} {nm bs : S} {en : Nat} (h : On m) (G : Shf.Good m.now) (F : m.now = Shf.ages m.safe m.moves) (hn : nameOk nm = true) (hg : get m.now nm = none) (hr : (m.named + m.gone + bs.length : Int) ≤ m.room) (hb : BRes m nm bs en m1) : en = 0 := by
  have cz := create_sz h G F nm hn hg
  have eC := (create_on h G F nm hn hg).1
  rcases hb with ⟨h0, _⟩ | ⟨h0, ⟨e, _⟩ | ⟨ma, ⟨_, b, rfl⟩, e, _⟩ | ⟨ma, ⟨mb, ⟨_, b, rfl⟩, _, rfl⟩, e, _⟩ | ⟨ma, ⟨mc, ⟨mb, ⟨_, b, rfl⟩, _, rfl⟩, _, rfl⟩, e, _⟩⟩
  · exact h0
  · exact e.trans eC
  · obtain ⟨c1, c2, c3, c4⟩ := cz b
    exact e.trans (appendE_zero (on_create h _ _) c4 bs (by rw [c1, c2, c3]; exact hr))
  · exact e.trans (onE_zero (on_append (on_create h _ _) _ _) (by rw [now_append]; exact (cz b).2.2.2))
  · exact e.trans (on_sync (on_append (on_create h _ _) _ _) _).act.2
theorem wres_zero {m m1 : M} {bs : S} {en : Nat} (h : On m) (G : Shf.Good m.now) (F : m.now = Shf.ages m.safe m.moves) (hg : get m.now besN = none) (hr : (m.named + m.gone + bs.length : Int) ≤ m.room) (hb : WRes m idxN bs en m1) : en = 0 := by
  have cz := create_sz h G F besN (by decide) hg
  have eC := (create_on h G F besN (by decide) hg).1
  have ok : nameOk idxN = true := by decide
  rcases hb with ⟨h0, _⟩ | ⟨h0, ⟨e, _⟩ | ⟨ma, ⟨_, b, rfl, _⟩, e, _⟩ | ⟨ma, ⟨mb, ⟨_, b, rfl, _⟩, _, rfl⟩, e, _⟩ | ⟨ma, ⟨mc, ⟨mb, ⟨_, b, rfl, _⟩, _, rfl⟩, _, rfl⟩, e, _⟩ | ⟨ma, ⟨md, ⟨mc, ⟨mb, ⟨_, b, rfl, _⟩, _, rfl⟩, _, rfl⟩, _, rfl⟩, e, _⟩⟩
  · exact h0
  · exact e.trans eC
  · obtain ⟨c1, c2, c3, c4⟩ := cz b
    exact e.trans (appendE_zero (on_create h _ _) c4 bs (by rw [c1, c2, c3]; exact hr))
  · exact e.trans (onE_zero (on_append (on_create h _ _) _ _) (by rw [now_append]; exact (cz b).2.2.2))
  · refine e.trans ?_
    unfold Shf.M.renameE
    rw [ok]
    exact onE_zero (on_sync (on_append (on_create h _ _) _ _) _) (by rw [now_sync, now_append]; exact (cz b).2.2.2)
  · refine e.trans ?_
    have o := on_sync (on_append (on_create h besN b) besN bs) besN
    have o2 : On ((((m.create besN b).append besN bs).sync besN).rename besN idxN) := by
      unfold Shf.M.rename
      rw [o.act.1]
      split
      · exact o
      · split
        · exact ⟨o.f, o.a⟩
        · split
          · exact ⟨o.f, o.a⟩
          · unfold Shf.M.lose
            split <;> exact ⟨o.f, o.a⟩
    exact o2.act.2
structure CG (c : CD) (m : M) : Prop where
  on : On m
  ages : m.now = Shf.ages m.safe m.moves
  good : Shf.Good m.now
  mv : m.moves = []
  idx : fileOf m idxN = some (headB c.hF c.hB c.hU) ∧ Synced m idxN
  ba : c.hB ≠ 0 → fileOf m (bName c.hB) = some (pack 98 c.base) ∧ Synced m (bName c.hB) ∧ c.base.length ≤ 1048576
  b0 : c.hB = 0 → c.base = []
  vo : ∀ d ∈ c.vols, fileOf m (vName d.no) = some (volB d) ∧ VolOk d ∧ 0 < d.first
  sy : ∀ d ∈ c.vols.dropLast, Synced m (vName d.no)
  nos : ∀ (i : Nat) (d : VolD), c.vols[i]? = some d → d.no = c.hF + i
  fi : ∀ (i : Nat) (d d' : VolD), c.vols[i]? = some d → c.vols[i + 1]? = some d' → d'.first = d.next
  f0 : ∀ d : VolD, c.vols[0]? = some d → d.first ≤ c.hU + 1
  up : c.hU < c.next
  only : ∀ s, get m.now s ≠ none → s = idxN ∨ (c.hB ≠ 0 ∧ s = bName c.hB) ∨ ∃ d ∈ c.vols, s = vName d.no
  nf : c.full = false
theorem CG.clean {c : CD} {m : M} (h : CG c m) : tidyM c.own m = (0, m) := by
  refine tidy_clean h.on (fun s hs => ?_) h.mv
  unfold CD.own CD.own0
  rcases h.only s hs with e | ⟨hb, e⟩ | ⟨d, hd, e⟩
  · refine List.mem_append_right _ ?_
    split <;> simp [e]
  · refine List.mem_append_right _ ?_
    rw [if_neg hb, e]
    simp
  · exact List.mem_append_left _ (List.mem_map.2 ⟨d, hd, e.symm⟩)
theorem nextNo_at {c : CD} {m : M} (h : CG c m) : c.nextNo = c.hF + c.vols.length := by
  by_cases h0 : c.vols = []
  · unfold CD.nextNo
    rw [h0]
    rfl
  · have hp := List.length_pos_iff.2 h0
    have e := getLast_at c.vols hp
    unfold CD.nextNo
    rw [e]
    have := h.nos (c.vols.length - 1) _ (List.getElem?_eq_getElem (by omega))
    show (c.vols[c.vols.length - 1]'(by omega)).no + 1 = _
    rw [this]
    omega
theorem CG.nogot {c : CD} {m : M} (h : CG c m) (hsz : c.hF + c.vols.length < 100) (hB : c.hB < 100) (n : Nat) (hn : n < 100) (hge : ∀ i, i < c.vols.length → n ≠ c.hF + i) : get m.now (vName n) = none := by
  cases hg : get m.now (vName n) with
  | none => rfl
  | some b =>
    rcases h.only (vName n) (by rw [hg]; simp) with e | ⟨_, e⟩ | ⟨d, hd, e⟩
    · exact absurd e (vn_idx n hn).1
    · exact absurd e (vn_bn n c.hB hn hB)
    · obtain ⟨i, hi, rfl⟩ := List.getElem_of_mem hd
      have e2 := h.nos i _ (List.getElem?_eq_getElem hi)
      have e3 := vn_ne n _ hn (by rw [e2]; omega) e
      exact absurd (e3.trans e2) (hge i hi)
theorem head_len : (headB 1 0 0).length ≤ 50 := by decide +kernel
theorem open_fresh {m : M} {mo : Nat} {en : Nat} {m' : M} {c' : CD} (h : On m) (hnow : m.now = []) (hmv : m.moves = []) (hs : m.safe = []) (hr : (m.named + m.gone + 50 : Int) ≤ m.room) (ho : OpenM ⟨mo, 1, 0, 0, [], [], false⟩ true m en m' c') (G1 : Shf.Good m'.now) : en = 0 ∧ c' = ⟨mo, 1, 0, 0, [], [], false⟩ ∧ CG c' m' ∧ m'.room = m.room ∧ m'.named + m'.gone ≤ m.named + 50 ∧ m'.done ≤ m.done + 5 ∧ Nms m' 3 := by
  have hno : ∀ s, get m.now s = none := fun s => by rw [hnow]; rfl
  have hnx : (⟨mo, 1, 0, 0, [], [], false⟩ : CD).nextNo = 1 := rfl
  obtain ⟨e1, m1, ⟨e2, m2, ⟨c1, ⟨n, ht⟩, hc1⟩, ht2⟩, h3⟩ := ho
  have hE : m.readE (vName 1) = 2 := by rw [h.readE]; unfold fileOf; rw [hno]; rfl
  have hv : ∀ {ok e m' c'}, TvM ⟨mo, 1, 0, 0, [], [], false⟩ m ok e m' c' → ok = false ∧ e = 0 ∧ m' = m ∧ c' = ⟨mo, 1, 0, 0, [], [], false⟩ := fun {ok e m' c'} hx => by
    rcases hx with ⟨_, h1, h2, h3, h4⟩ | ⟨h0, _⟩ | ⟨h0, _⟩
    · exact ⟨h1, h2, h3, h4⟩
    · rw [hnx, hE] at h0; cases h0
    · rw [hnx, hE] at h0; cases h0
  have hn : n = 0 := by
    cases n with
    | zero => rfl
    | succ n =>
      obtain ⟨_, _, _, hx, _⟩ := ht
      have := (hv hx).1
      cases this
  subst hn
  obtain ⟨_, rfl, rfl, rfl⟩ := hv ht
  have hc' : c' = ⟨mo, 1, 0, 0, [], [], false⟩ := hc1
  have G0 : Shf.Good m2.now := by rw [hnow]; exact Shf.Good.nil
  have F0 : m2.now = Shf.ages m2.safe m2.moves := by rw [hnow, hmv, hs]; rfl
  have hty : tidyM c'.own m2 = (0, m2) := tidy_clean h (fun s hs => absurd (hno s) hs) hmv
  obtain ⟨he1, hm1⟩ : e1 = 0 ∧ m1 = m2 := by
    rcases ht2 with ⟨h0, _⟩ | ⟨_, h1, h2⟩
    · exact absurd rfl h0
    · rw [hty] at h1 h2; exact ⟨h1, h2⟩
  rcases h3 with ⟨_, _, h3⟩ | ⟨h3, _⟩
  · obtain ⟨e4, m4, ⟨hw, _⟩, h4⟩ := h3
    rw [hm1] at hw
    have hlen := head_len
    have hz := wres_zero h G0 F0 (hno _) (by omega) hw
    rcases h4 with ⟨_, rfl, rfl⟩ | ⟨h4, _⟩
    · obtain ⟨_, nw, hbn⟩ := write_ok h G0 F0 (hno _) (hno _) (by omega) hw G1
      have ws := wres_small hw (by decide) (k := 0) ⟨by rw [hnow]; exact Nat.le_refl _, fun p hp => by rw [hnow] at hp; cases hp⟩
      refine ⟨rfl, hc', ?_, nw.room, ?_, ws.1, ws.2.2⟩
      · rw [hc']
        refine ⟨nw.on, by rw [nw.moves, nw.safe]; rfl, G1, nw.moves, ⟨nw.is, nw.sy⟩, fun h => absurd rfl h, fun _ => rfl, fun d hd => (by cases hd), fun d hd => (by cases hd), fun i d hd => (by simp at hd), fun i d d' hd => (by simp at hd), fun d hd => (by simp at hd), by show 0 < 0 + 1; decide, fun s hs => ?_, rfl⟩
        by_cases e : s = idxN
        · exact Or.inl e
        · rw [nw.get s e] at hs
          exact absurd (hno s) hs
      · rw [nw.gone]
        have := nw.named
        omega
    · exact absurd hz h4
  · exact absurd ⟨rfl, he1⟩ h3
end Go.Proofs.YtdbhgkbmbbjpdaaGreatDoor.Chr
