/- A chronicle and its shelf, where nothing goes wrong: records, Sync, falls, opened again. -/
import Derived.Test.YtdbhgkbmbbjpdaaGreatDoorOd
namespace Go.Proofs.YtdbhgkbmbbjpdaaGreatDoor.Chr
open Go.ChangeShapes Go.WideShapes Go.ChangeAt Go.RowKit
open Shf (S str)
open Coin (Rd Row Own sz coin got Pur takeV endV CoinSaid)
open Frm (pack err size kind cnt body noItem itemV OneSaid)
set_option maxRecDepth 8000
set_option linter.unusedVariables false
open Shf (Tag Ext Rep M RdN get Fine nameOk act_now ages wo wi Mv)
theorem titleB_len2 (a b : Nat) : (titleB a b).length ≤ 50 := by
  unfold titleB
  rw [Frm.length_pack]
  have h1 := coins_len [a, b]
  have h2 := Coin.sz_le (coins [a, b]).length
  simp only [List.length_cons, List.length_nil] at h1
  omega
def AllSync (c : CD) (m : M) : Prop := ∀ d ∈ c.vols, Synced m (vName d.no)
structure CN (c : CD) : Prop where
  no : c.hF + c.vols.length < 99
  hB : c.hB < 99
theorem CG.no_lt {c : CD} {m : M} (h : CG c m) (N : CN c) {d : VolD} (hd : d ∈ c.vols) : d.no < 99 := by
  obtain ⟨i, hi, rfl⟩ := List.getElem_of_mem hd
  rw [h.nos i _ (List.getElem?_eq_getElem hi)]
  have := N.no
  omega
theorem CG.keep {c : CD} {m m' : M} {nm l : S} (h : CG c m) (s : Stp m m' nm l) (hf : fileOf m nm = some l) (hs : Synced m nm → Synced m' nm) : CG c m' := by
  have f : ∀ t, fileOf m' t = fileOf m t := fun t => by
    by_cases e : t = nm
    · rw [e, s.is, hf]
    · exact (s.rest t e).1
  have sy : ∀ t, Synced m t → Synced m' t := fun t x => by
    by_cases e : t = nm
    · rw [e] at x ⊢; exact hs x
    · exact (s.rest t e).2 x
  exact ⟨s.on, by rw [s.now, s.safe, s.moves]; exact h.ages, by rw [s.now]; exact h.good, by rw [s.moves]; exact h.mv, ⟨(f _).trans h.idx.1, sy _ h.idx.2⟩, fun hb => ⟨(f _).trans (h.ba hb).1, sy _ (h.ba hb).2.1, (h.ba hb).2.2⟩, h.b0, fun d hd => ⟨(f _).trans (h.vo d hd).1, (h.vo d hd).2⟩, fun d hd => sy _ (h.sy d hd), h.nos, h.fi, h.f0, h.up, fun t ht => h.only t (by rw [← s.now]; exact ht), h.nf⟩
theorem CG.sync {c : CD} {m : M} (h : CG c m) : (syM c m).1 = 0 ∧ CG c (syM c m).2 ∧ AllSync c (syM c m).2 ∧ (syM c m).2.room = m.room ∧ (syM c m).2.named + (syM c m).2.gone = m.named + m.gone := by
  by_cases h0 : c.vols = []
  · have e : syM c m = (0, m) := by unfold syM; rw [h0]; rfl
    rw [e]
    exact ⟨rfl, h, (fun d hd => by rw [h0] at hd; cases hd), rfl, rfl⟩
  · obtain ⟨l, d, hl⟩ : ∃ l d, c.vols = l ++ [d] := ⟨c.vols.dropLast, c.vols.getLast h0, (List.dropLast_concat_getLast h0).symm⟩
    have e : syM c m = (m.onE (vName d.no), m.sync (vName d.no)) := by unfold syM; rw [hl]; simp
    have hd : d ∈ c.vols := by rw [hl]; simp
    obtain ⟨k1, k2, k3, k4⟩ := sync_on h.on h.good (h.vo d hd).1
    rw [e]
    have hk := h.keep k2 (h.vo d hd).1 (fun _ => k4)
    refine ⟨k1, hk, fun x hx => ?_, k2.room, by rw [k3, k2.gone]⟩
    rw [hl] at hx
    rcases List.mem_append.1 hx with hx | hx
    · exact hk.sy x (by rw [hl]; simpa using hx)
    · rw [List.mem_singleton.1 hx]; exact k4
theorem snoc_at {l : List VolD} {d : VolD} {i : Nat} {y : VolD} (h : (l ++ [d])[i]? = some y) : (i < l.length ∧ l[i]? = some y) ∨ (i = l.length ∧ y = d) := by
  rcases Nat.lt_trichotomy i l.length with hi | hi | hi
  · left
    rw [List.getElem?_append_left hi] at h
    exact ⟨hi, h⟩
  · right
    rw [hi, List.getElem?_append_right (Nat.le_refl _), Nat.sub_self] at h
    injection h with h
    exact ⟨hi, h.symm⟩
  · rw [List.getElem?_eq_none (by simp; omega)] at h; cases h
theorem snoc_lt {l : List VolD} {d : VolD} {i : Nat} (hi : i < l.length) : (l ++ [d])[i]? = l[i]? := List.getElem?_append_left hi
theorem snoc_last (l : List VolD) (d : VolD) : (l ++ [d])[l.length]? = some d := by
  rw [List.getElem?_append_right (Nat.le_refl _), Nat.sub_self]; rfl
theorem CG.more {c : CD} {m : M} (h : CG c m) (N : CN c) {l : List VolD} {d : VolD} (hl : c.vols = l ++ [d]) (k : UInt8) (p : S) (hp : p.length ≤ 1048576) (hr : (m.named + m.gone + (pack k p).length : Int) ≤ m.room) :
    m.appendE (vName d.no) (pack k p) = 0 ∧ CG (atlC c l d k p 0) (m.append (vName d.no) (pack k p)) ∧ (m.append (vName d.no) (pack k p)).room = m.room ∧ (m.append (vName d.no) (pack k p)).named + (m.append (vName d.no) (pack k p)).gone = m.named + m.gone + (pack k p).length := by
  have hd : d ∈ c.vols := by rw [hl]; simp
  obtain ⟨v1, v2, v3⟩ := h.vo d hd
  obtain ⟨e0, s, nd⟩ := append_on h.on h.good v1 (pack k p) hr
  obtain ⟨w1, w2⟩ := v2.more k p hp
  have hdn := h.no_lt N hd
  have hdi : d.no = c.hF + l.length := h.nos l.length d (by rw [hl]; exact snoc_last l d)
  have hne : ∀ (i : Nat) (x : VolD), l[i]? = some x → vName x.no ≠ vName d.no := fun i x hx e => by
    have hi := (List.getElem?_eq_some_iff.1 hx).1
    have e1 := h.nos i x (by rw [hl, snoc_lt hi]; exact hx)
    have hxm : x ∈ c.vols := by rw [hl]; exact List.mem_append_left _ (List.mem_of_getElem? hx)
    have := vn_ne _ _ (by have := h.no_lt N hxm; omega) (by omega) e
    omega
  have hnm : ∀ x ∈ l, vName x.no ≠ vName d.no := fun x hx => by
    obtain ⟨i, hi, rfl⟩ := List.getElem_of_mem hx
    exact hne i _ (List.getElem?_eq_getElem hi)
  have hE : atlC c l d k p 0 = {c with vols := l ++ [{d with its := d.its ++ [⟨k, p, d.size, d.size + (pack k p).length⟩], size := d.size + (pack k p).length}]} := rfl
  rw [hE]
  refine ⟨e0, ⟨s.on, by rw [s.now, s.safe, s.moves]; exact h.ages, by rw [s.now]; exact h.good, by rw [s.moves]; exact h.mv, ⟨(s.rest _ (Ne.symm (vn_idx d.no (by omega)).1)).1.trans h.idx.1, (s.rest _ (Ne.symm (vn_idx d.no (by omega)).1)).2 h.idx.2⟩, fun hb => ?_, h.b0, fun x hx => ?_, fun x hx => ?_, fun i x hx => ?_, fun i x y hx hy => ?_, fun x hx => ?_, ?_, fun t ht => ?_, h.nf⟩, s.room, by rw [nd, s.gone]; omega⟩
  · have hb' : c.hB ≠ 0 := hb
    have ne : bName c.hB ≠ vName d.no := Ne.symm (vn_bn d.no c.hB (by omega) (by have := N.hB; omega))
    exact ⟨(s.rest _ ne).1.trans (h.ba hb').1, (s.rest _ ne).2 (h.ba hb').2.1, (h.ba hb').2.2⟩
  · rcases List.mem_append.1 hx with hx | hx
    · have hx2 := h.vo x (by rw [hl]; exact List.mem_append_left _ hx)
      exact ⟨(s.rest _ (hnm x hx)).1.trans hx2.1, hx2.2⟩
    · rw [List.mem_singleton.1 hx]
      exact ⟨by show fileOf _ (vName d.no) = _; rw [s.is, w2], w1, v3⟩
  · have hx : x ∈ (l ++ [_]).dropLast := hx
    rw [List.dropLast_concat] at hx
    exact (s.rest _ (hnm x hx)).2 (h.sy x (by rw [hl, List.dropLast_concat]; exact hx))
  · rcases snoc_at hx with ⟨hi, hx⟩ | ⟨rfl, rfl⟩
    · exact h.nos i x (by rw [hl, snoc_lt hi]; exact hx)
    · exact hdi
  · rcases snoc_at hx with ⟨hi, hx⟩ | ⟨rfl, rfl⟩
    · have hx2 : c.vols[i]? = some x := by rw [hl, snoc_lt hi]; exact hx
      rcases snoc_at hy with ⟨hj, hy⟩ | ⟨hj, rfl⟩
      · exact h.fi i x y hx2 (by rw [hl, snoc_lt hj]; exact hy)
      · exact h.fi i x d hx2 (by rw [hl, hj]; exact snoc_last l d)
    · rcases snoc_at hy with ⟨hj, _⟩ | ⟨hj, _⟩ <;> omega
  · rcases snoc_at hx with ⟨hi, hx⟩ | ⟨hi, rfl⟩
    · exact h.f0 x (by rw [hl, snoc_lt hi]; exact hx)
    · exact h.f0 d (by rw [hl, hi]; exact snoc_last l d)
  · have hu := h.up
    have n1 : c.next = d.first + d.its.length := by unfold CD.next; rw [hl]; simp [VolD.next]
    show c.hU < CD.next _
    have n2 : CD.next {c with vols := l ++ [{d with its := d.its ++ [⟨k, p, d.size, d.size + (pack k p).length⟩], size := d.size + (pack k p).length}]} = d.first + (d.its.length + 1) := by unfold CD.next; simp [VolD.next]
    rw [n2]
    omega
  · rcases h.only t (by rw [← s.now]; exact ht) with e | e | ⟨x, hx, e⟩
    · exact Or.inl e
    · exact Or.inr (Or.inl e)
    · rw [hl] at hx
      rcases List.mem_append.1 hx with hx | hx
      · exact Or.inr (Or.inr ⟨x, List.mem_append_left _ hx, e⟩)
      · rw [List.mem_singleton.1 hx] at e
        exact Or.inr (Or.inr ⟨_, List.mem_append_right _ (List.mem_singleton.2 rfl), e⟩)
theorem CG.newVol {c : CD} {m m1 : M} (h : CG c m) (hs : AllSync c m) (N : CN c) (hnx : c.next < 1000000000) (hb : Nw9 m m1 (vName c.nextNo) (titleB c.nextNo c.next)) : CG {c with vols := c.vols ++ [newV c]} m1 := by
  have hno := nextNo_at h
  have hlt : c.nextNo < 99 := by rw [hno]; exact N.no
  have hne : ∀ x ∈ c.vols, vName x.no ≠ vName c.nextNo := fun x hx e => by
    obtain ⟨i, hi, rfl⟩ := List.getElem_of_mem hx
    have e1 := h.nos i _ (List.getElem?_eq_getElem hi)
    have := vn_ne _ _ (by have := h.no_lt N (List.getElem_mem hi); omega) (by omega) e
    omega
  have hi1 : idxN ≠ vName c.nextNo := Ne.symm (vn_idx _ (by omega)).1
  refine ⟨hb.on, by rw [hb.moves, hb.safe]; rfl, hb.good, hb.moves, ⟨(hb.rest _ hi1).1.trans h.idx.1, (hb.rest _ hi1).2 h.idx.2⟩, fun hB => ?_, h.b0, fun x hx => ?_, fun x hx => ?_, fun i x hx => ?_, fun i x y hx hy => ?_, fun x hx => ?_, ?_, fun t ht => ?_, h.nf⟩
  · have hB' : c.hB ≠ 0 := hB
    have ne : bName c.hB ≠ vName c.nextNo := Ne.symm (vn_bn _ c.hB (by omega) (by have := N.hB; omega))
    exact ⟨(hb.rest _ ne).1.trans (h.ba hB').1, (hb.rest _ ne).2 (h.ba hB').2.1, (h.ba hB').2.2⟩
  · rcases List.mem_append.1 hx with hx | hx
    · exact ⟨(hb.rest _ (hne x hx)).1.trans (h.vo x hx).1, (h.vo x hx).2⟩
    · rw [List.mem_singleton.1 hx]
      have hu := h.up
      refine ⟨?_, ⟨by show c.nextNo < _; omega, by show c.next < _; omega, (fun y hy => by cases hy), rfl⟩, by show 0 < c.next; omega⟩
      show fileOf m1 (vName c.nextNo) = some (titleB c.nextNo c.next ++ [])
      rw [hb.is, List.append_nil]
  · have hx : x ∈ (c.vols ++ [newV c]).dropLast := hx
    rw [List.dropLast_concat] at hx
    exact (hb.rest _ (hne x hx)).2 (hs x hx)
  · rcases snoc_at hx with ⟨hi, hx⟩ | ⟨rfl, rfl⟩
    · exact h.nos i x hx
    · exact hno
  · rcases snoc_at hx with ⟨hi, hx⟩ | ⟨rfl, rfl⟩
    · rcases snoc_at hy with ⟨hj, hy⟩ | ⟨hj, rfl⟩
      · exact h.fi i x y hx hy
      · show c.next = x.next
        have e : c.vols.getLast? = some x := by rw [List.getLast?_eq_getElem?, show c.vols.length - 1 = i by omega]; exact hx
        unfold CD.next
        rw [e]
    · rcases snoc_at hy with ⟨hj, _⟩ | ⟨hj, _⟩ <;> omega
  · rcases snoc_at hx with ⟨hi, hx⟩ | ⟨hi, rfl⟩
    · exact h.f0 x hx
    · show c.next ≤ c.hU + 1
      have e : c.vols = [] := List.eq_nil_of_length_eq_zero hi.symm
      unfold CD.next
      rw [e]
      exact Nat.le_refl _
  · show c.hU < CD.next _
    have n2 : CD.next {c with vols := c.vols ++ [newV c]} = c.next := by
      show (match (c.vols ++ [newV c]).getLast? with | none => c.hU + 1 | some d => d.next) = _
      simp [VolD.next, newV]
    rw [n2]
    exact h.up
  · by_cases e : t = vName c.nextNo
    · exact Or.inr (Or.inr ⟨newV c, List.mem_append_right _ (List.mem_singleton.2 rfl), e⟩)
    · rw [hb.get t e] at ht
      rcases h.only t ht with e | e | ⟨x, hx, e⟩
      · exact Or.inl e
      · exact Or.inr (Or.inl e)
      · exact Or.inr (Or.inr ⟨x, List.mem_append_left _ hx, e⟩)
theorem append_sz {m : M} (h : On m) {nm : S} {b : Nat} (hg : get m.now nm = some b) (p : S) (hr : (m.named + m.gone + p.length : Int) ≤ m.room) : (m.append nm p).named = m.named + p.length ∧ (m.append nm p).gone = m.gone ∧ (m.append nm p).room = m.room := by
  have h1 : ¬ (m.named + m.gone + p.length : Int) > m.room := by omega
  unfold Shf.M.append
  rw [h.onF, hg, h.act.1]
  simp only [h1, if_false]
  exact ⟨trivial, trivial, trivial⟩
theorem bst4 {m m1 : M} {nm bs : S} (h : On m) (G : Shf.Good m.now) (F : m.now = Shf.ages m.safe m.moves) (hn : nameOk nm = true) (hg : get m.now nm = none) (hr : (m.named + m.gone + bs.length : Int) ≤ m.room) (hb : BSt m nm bs 4 m1) : On m1 ∧ (∃ b, get m1.now nm = some b) ∧ m1.named + m1.gone ≤ m.named + m.gone + bs.length ∧ m1.room = m.room := by
  obtain ⟨md, ⟨mc, ⟨mb, ⟨_, b, rfl⟩, _, rfl⟩, _, rfl⟩, _, rfl⟩ := hb
  obtain ⟨c1, c2, c3, c4⟩ := create_sz h G F nm hn hg b
  have o1 := on_create h nm b
  have o2 := on_append o1 nm bs
  have o3 := on_sync o2 nm
  obtain ⟨a1, a2, a3⟩ := append_sz o1 c4 bs (by rw [c1, c2, c3]; exact hr)
  have g2 : get ((m.create nm b).append nm bs).now nm = some b := by rw [now_append]; exact c4
  have e3 : (((m.create nm b).append nm bs).sync nm) = ((m.create nm b).append nm bs).act.file b ((((m.create nm b).append nm bs).fl b).1, (((m.create nm b).append nm bs).fl b).1.length) := by
    rw [show ((m.create nm b).append nm bs).sync nm = _ from rfl]
    conv => lhs; unfold Shf.M.sync
    rw [o2.onF, g2]
  have e4 : (((m.create nm b).append nm bs).sync nm).names = {(((m.create nm b).append nm bs).sync nm).act with safe := Shf.ages (((m.create nm b).append nm bs).sync nm).safe (((m.create nm b).append nm bs).sync nm).moves, moves := [], gone := 0} := by
    conv => lhs; unfold Shf.M.names
    rw [o3.act.2]
    simp
  refine ⟨?_, ⟨b, by rw [now_names, now_sync]; exact g2⟩, ?_, ?_⟩
  · rw [e4, o3.act.1]; exact ⟨o3.f, o3.a⟩
  · rw [e4, o3.act.1]
    show (((m.create nm b).append nm bs).sync nm).named + 0 ≤ _
    rw [e3, o2.act.1]
    show ((m.create nm b).append nm bs).named + 0 ≤ _
    rw [a1, c1]
    omega
  · rw [e4, o3.act.1]
    show (((m.create nm b).append nm bs).sync nm).room = _
    rw [e3, o2.act.1]
    show ((m.create nm b).append nm bs).room = _
    rw [a3, c3]
theorem CG.add {c : CD} {m : M} (h : CG c m) (N : CN c) (N1 : c.hF + c.vols.length < 98) (hnx : c.next < 1000000000) (k : UInt8) (p : S) (hp : p.length ≤ 1048576) (hr : (m.named + m.gone + 50 + (pack k p).length : Int) ≤ m.room) {e : Nat} {m' : M} {c' : CD} (ha : AdM c m k p e m' c') (G1 : Shf.Good m'.now) :
    e = 0 ∧ CG c' m' ∧ m'.room = m.room ∧ m'.named + m'.gone ≤ m.named + m.gone + 50 + (pack k p).length ∧
      ((∃ l d, c.vols = l ++ [d] ∧ d.size < c.most ∧ c' = atlC c l d k p 0) ∨ ((∀ l d, c.vols = l ++ [d] → ¬ d.size < c.most) ∧ c' = atlC {c with vols := c.vols ++ [newV c]} c.vols (newV c) k p 0)) := by
  rcases ha with ⟨l, d, hl, hlt, he, rfl, hc⟩ | ⟨hno, h2⟩
  · obtain ⟨k1, k2, k3, k4⟩ := h.more N hl k p hp (by omega)
    rw [k1] at he
    rw [he] at hc
    rw [hc]
    exact ⟨he, k2, k3, by omega, Or.inl ⟨l, d, hl, hlt, rfl⟩⟩
  · obtain ⟨s1, s2, s3, s4, s5⟩ := h.sync
    rcases h2 with ⟨h0, _⟩ | ⟨_, en, mb, cb, hb, h3⟩
    · exact absurd s1 h0
    · have hnn : c.nextNo < 99 := by rw [nextNo_at h]; exact N.no
      have hg : get (syM c m).2.now (vName c.nextNo) = none := s2.nogot (by have := N.no; omega) (by have := N.hB; omega) c.nextNo (by omega) (fun i hi e => by rw [nextNo_at h] at e; omega)
      have htl := titleB_len2 c.nextNo c.next
      have hrr : ((syM c m).2.named + (syM c m).2.gone + (titleB c.nextNo c.next).length : Int) ≤ (syM c m).2.room := by rw [s4]; omega
      obtain ⟨en1, m1, ⟨hres, _⟩, hcase⟩ := hb
      have hz := bres_zero s2.on s2.good s2.ages (vn_ok _ (by omega)) hg hrr hres
      rcases hcase with ⟨_, rfl, rfl, hcb⟩ | ⟨h0, _⟩
      · rcases hres with ⟨_, hb4⟩ | ⟨h0, _⟩
        · obtain ⟨o1, ⟨b, gb⟩, sz1, rm1⟩ := bst4 s2.on s2.good s2.ages (vn_ok _ (by omega)) hg hrr hb4
          have ez := appendE_zero o1 gb (pack k p) (by rw [rm1, s4]; omega)
          rcases h3 with ⟨h0, _⟩ | ⟨_, _, h4⟩
          · exact absurd rfl h0
          · rcases h4 with ⟨_, he, rfl, rfl⟩ | ⟨h5, _⟩
            · rw [now_append] at G1
              obtain ⟨_, nw⟩ := begin_ok s2.on s2.good s2.ages (vn_ok _ (by omega)) hg hrr (Or.inl ⟨hz, hb4⟩ : BRes _ _ _ en1 _) G1
              have cg := s2.newVol s3 N hnx nw
              have N2 : CG {c with vols := c.vols ++ [newV c]} mb := cg
              have hd1 : (newV c).no = c.nextNo := rfl
              -- the numbers are one more
              obtain ⟨k1, k2, k3, k4⟩ := cg.more ⟨by show c.hF + (c.vols ++ [newV c]).length < 99; simp; omega, N.hB⟩ (l := c.vols) (d := newV c) rfl k p hp (by rw [rm1, s4]; omega)
              have k5 : (mb.append (vName c.nextNo) (pack k p)).named + (mb.append (vName c.nextNo) (pack k p)).gone = mb.named + mb.gone + (pack k p).length := k4
              exact ⟨he, k2, k3.trans (rm1.trans s4), by omega, Or.inr ⟨hno, rfl⟩⟩
            · exact absurd ez h5
        · exact absurd hz h0
      · exact absurd hz h0
theorem CG.fall {c : CD} {m : M} (h : CG c m) (F : Fine m) (hs : AllSync c m) (names bytes : Int) (F2 : Fine (m.fall names bytes)) : CG c (m.fall names bytes) ∧ (m.fall names bytes).room = m.room ∧ (m.fall names bytes).named + (m.fall names bytes).gone ≤ m.named + m.gone ∧ AllSync c (m.fall names bytes) := by
  have hsafe : m.now = m.safe := by have := h.ages; rw [h.mv] at this; exact this
  have hnow : (m.fall names bytes).now = m.now := by
    show Shf.ages m.safe (m.moves.take _) = _
    rw [h.mv, List.take_nil, hsafe]
    rfl
  have hall : ∀ t, Synced m t := fun t b hb => by
    rcases h.only t (by rw [hb]; simp) with e | ⟨hB, e⟩ | ⟨d, hd, e⟩
    · rw [e] at hb; exact h.idx.2 b hb
    · rw [e] at hb; exact (h.ba hB).2.1 b hb
    · rw [e] at hb; exact hs d hd b hb
  have hfl : ∀ t b, get m.now t = some b → ((m.fall names bytes).fl b).1 = (m.fl b).1 ∧ ((m.fall names bytes).fl b).2 = (m.fl b).2 := fun t b hb => by
    have e := hall t b hb
    have hL : Shf.ages m.safe (m.moves.take (min names.toNat m.moves.length)) = m.now := hnow
    show (Shf.fallF m.fl (Shf.ages m.safe (m.moves.take (min names.toNat m.moves.length))) bytes b).1 = _ ∧ (Shf.fallF m.fl (Shf.ages m.safe (m.moves.take (min names.toNat m.moves.length))) bytes b).2 = _
    rw [hL]
    have hl : Shf.left (m.fl b) bytes = (m.fl b).1.length := by unfold Shf.left; rw [e]; simp
    have ha : m.now.any (fun p => p.2 == b) = true := by
      rw [List.any_eq_true]
      exact ⟨(t, b), Shf.mem_get hb, by simp⟩
    unfold Shf.fallF
    rw [if_pos ha, hl]
    exact ⟨List.take_length, e.symm⟩
  have f : ∀ t, fileOf (m.fall names bytes) t = fileOf m t := fun t => by
    unfold fileOf
    rw [hnow]
    cases hb : get m.now t with
    | none => rfl
    | some b => show some ((m.fall names bytes).fl b).1 = some (m.fl b).1; rw [(hfl t b hb).1]
  have sy : ∀ t, Synced (m.fall names bytes) t := fun t b hb => by
    rw [hnow] at hb
    rw [(hfl t b hb).1, (hfl t b hb).2]
    exact hall t b hb
  refine ⟨⟨⟨rfl, rfl⟩, F2.now, F2.goodNow, rfl, ⟨(f _).trans h.idx.1, sy _⟩, fun hB => ⟨(f _).trans (h.ba hB).1, sy _, (h.ba hB).2.2⟩, h.b0, fun d hd => ⟨(f _).trans (h.vo d hd).1, (h.vo d hd).2⟩, fun d hd => sy _, h.nos, h.fi, h.f0, h.up, fun t ht => h.only t (by rw [← hnow]; exact ht), h.nf⟩, rfl, ?_, fun d hd => sy _⟩
  have h1 : (m.fall names bytes).named = Shf.tot (Shf.fallF m.fl (Shf.ages m.safe (m.moves.take (min names.toNat m.moves.length))) bytes) (Shf.ages m.safe (m.moves.take (min names.toNat m.moves.length))) := rfl
  have h2 : Shf.ages m.safe (m.moves.take (min names.toNat m.moves.length)) = m.now := hnow
  have h3 := Shf.tot_fall_le m.fl m.now m.now bytes
  rw [h2] at h1
  have h4 := F.named
  show _ + 0 ≤ _
  omega
theorem CG.most {c : CD} {m : M} (h : CG c m) (mo : Nat) : CG {c with most := mo} m := ⟨h.on, h.ages, h.good, h.mv, h.idx, h.ba, h.b0, h.vo, h.sy, h.nos, h.fi, h.f0, h.up, h.only, h.nf⟩
theorem CG.tvs {c : CD} {m : M} (h : CG c m) (N : CN c) (mo : Nat) : ∀ (n k : Nat) (e : Nat) (m' : M) (c' : CD), k ≤ c.vols.length → TvsN n {c with most := mo, vols := c.vols.take k} m e m' c' → e = 0 ∧ m' = m ∧ c' = {c with most := mo}
  | n, k, e, m', c', hk, ht => by
    obtain ⟨ck, hck⟩ : ∃ x : CD, x = {c with most := mo, vols := c.vols.take k} := ⟨_, rfl⟩
    have hvk : ck.vols = c.vols.take k := by rw [hck]
    have hN := N.no
    have hlast : ∀ j, k = j + 1 → (c.vols.take k).getLast? = c.vols[j]? := fun j hj => by
      rw [List.getLast?_eq_getElem?, List.length_take, Nat.min_eq_left hk, List.getElem?_take_of_lt (by omega), hj]
      rfl
    have hno : ck.nextNo = c.hF + k := by
      unfold CD.nextNo
      rw [hvk]
      cases k with
      | zero => rw [hck]; rfl
      | succ j =>
        rw [hlast j rfl, List.getElem?_eq_getElem (by omega)]
        show (c.vols[j]'(by omega)).no + 1 = _
        rw [h.nos j _ (List.getElem?_eq_getElem (by omega))]
        omega
    have hnx0 : k = 0 → ck.next = c.hU + 1 := fun h0 => by
      unfold CD.next
      rw [hvk, h0, List.take_zero, hck]
      rfl
    have hnxj : ∀ (j : Nat) (d : VolD), k = j + 1 → c.vols[j]? = some d → ck.next = d.next := fun j d hj hd => by
      unfold CD.next
      rw [hvk, hlast j hj, hd]
    have hv : ∀ {ok : Bool} {e : Nat} {m' : M} {c' : CD}, TvM ck m ok e m' c' → m' = m ∧ e = 0 ∧ ((k = c.vols.length ∧ ok = false ∧ c' = ck) ∨ (k < c.vols.length ∧ ok = true ∧ c' = {c with most := mo, vols := c.vols.take (k + 1)})) := fun {ok e m' c'} hx => by
      by_cases hkl : k < c.vols.length
      · have hd := List.getElem?_eq_getElem hkl
        obtain ⟨d, hdd⟩ : ∃ d, d = c.vols[k] := ⟨_, rfl⟩
        rw [← hdd] at hd
        have hdm : d ∈ c.vols := by rw [hdd]; exact List.getElem_mem _
        obtain ⟨v1, v2, v3⟩ := h.vo d hdm
        have dn := h.nos k d hd
        rw [dn] at v1
        obtain ⟨i1, i2⟩ := volIs_of v2
        have hrE : m.readE (vName ck.nextNo) = 0 := by rw [hno, h.on.readE, v1]
        have hrP : m.readP (vName ck.nextNo) = volB d := by rw [hno, h.on.readP, v1]; rfl
        have hfo : ck.follows d.first = true := by
          unfold CD.follows
          rw [hvk]
          cases hk0 : k with
          | zero =>
            rw [hk0] at hd
            have h5 : ck.next = c.hU + 1 := hnx0 hk0
            rw [if_pos (by simp), h5]
            exact decide_eq_true (h.f0 d hd)
          | succ j =>
            have hne : ¬ c.vols.take (j + 1) = [] := fun e => by
              have := congrArg List.length e
              rw [List.length_take, List.length_nil] at this
              omega
            rw [if_neg hne]
            have hj := List.getElem?_eq_getElem (show j < c.vols.length by omega)
            have h5 : ck.next = (c.vols[j]'(by omega)).next := hnxj j _ hk0 hj
            rw [h5]
            rw [hk0] at hd
            exact decide_eq_true (h.fi j _ d hj hd)
        rcases hx with ⟨h0, _⟩ | ⟨_, h1, _⟩ | ⟨_, d', h1, h2, h3, h4, h5, h6, h7, h8⟩
        · exact absurd hrE h0
        · rw [hrP] at h1
          exact absurd ⟨v3, dn.trans hno.symm, hfo⟩ (h1 d i1)
        · rw [hrP] at h1 h8
          have e := volIs_one h1 i1
          subst e
          rcases h8 with ⟨h8, _⟩ | ⟨_, h9, h10⟩
          · omega
          · refine ⟨h10, h9, Or.inr ⟨hkl, by rw [h7, h9]; rfl, ?_⟩⟩
            rw [h6, hvk, hck]
            have et : c.vols.take (k + 1) = c.vols.take k ++ [d'] := by rw [List.take_add_one, hd]; rfl
            rw [et]
      · have hke : k = c.vols.length := by omega
        have hnone := h.nogot (by omega) (by have := N.hB; omega) (c.hF + k) (by omega) (fun i hi e => by omega)
        have hrE : m.readE (vName ck.nextNo) ≠ 0 := by rw [hno, h.on.readE]; unfold fileOf; rw [hnone]; show (2 : Nat) ≠ 0; decide
        rcases hx with ⟨_, h1, h2, h3, h4⟩ | ⟨h0, _⟩ | ⟨h0, _⟩
        · exact ⟨h3, h2, Or.inl ⟨hke, h1, h4⟩⟩
        · exact absurd h0 hrE
        · exact absurd h0 hrE
    rw [← hck] at ht
    match n, ht with
    | 0, ht =>
      obtain ⟨r1, r2, ⟨r3, _, r4⟩ | ⟨_, r4, _⟩⟩ := hv ht
      · refine ⟨r2, r1, ?_⟩
        rw [r4, hck, r3, List.take_length]
      · cases r4
    | n + 1, ⟨e1, m1, c1, h1, h2⟩ =>
      obtain ⟨r1, r2, ⟨_, r3, _⟩ | ⟨r3, _, r4⟩⟩ := hv h1
      · cases r3
      · rw [r1, r4] at h2
        exact CG.tvs h N mo n (k + 1) e m' c' (by omega) h2
theorem CG.again {c : CD} {m : M} (h : CG c m) (N : CN c) (mo : Nat) {en : Nat} {m' : M} {c' : CD} (ho : OpenM {c with most := mo, vols := []} false m en m' c') : en = 0 ∧ m' = m ∧ c' = {c with most := mo} := by
  obtain ⟨e1, m1, ⟨e2, m2, ⟨c1, ⟨n, ht⟩, hc1⟩, ht2⟩, h3⟩ := ho
  obtain ⟨r1, r2, r3⟩ := h.tvs N mo n 0 e2 m2 c1 (Nat.zero_le _) (by rw [List.take_zero]; exact ht)
  have hup : decide (c1.next ≤ c1.hU) = false := by
    rw [r3]
    have hu := h.up
    exact decide_eq_false (by show ¬ c.next ≤ c.hU; omega)
  rw [hup] at hc1
  have hc' : c' = {c with most := mo} := hc1.trans r3
  have hty : tidyM c'.own m2 = (0, m) := by rw [r2, hc']; exact (h.most mo).clean
  obtain ⟨he1, hm1⟩ : e1 = 0 ∧ m1 = m := by
    rcases ht2 with ⟨h0, _⟩ | ⟨_, h1, h2⟩
    · exact absurd r1 h0
    · rw [hty] at h1 h2; exact ⟨h1, h2⟩
  rcases h3 with ⟨h0, _⟩ | ⟨_, h1, h2⟩
  · cases h0
  · exact ⟨h1.trans he1, h2.trans hm1, hc'⟩
end Go.Proofs.YtdbhgkbmbbjpdaaGreatDoor.Chr
