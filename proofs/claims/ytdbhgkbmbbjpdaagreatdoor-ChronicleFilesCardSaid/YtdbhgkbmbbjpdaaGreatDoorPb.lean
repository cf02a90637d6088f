/- How many volumes end in time. A file written over what there is; files that go; what a fold comes to. Pure. Volumes that go: slices.Delete from the first one on. What a fold comes to. Pure. -/
import Derived.Test.YtdbhgkbmbbjpdaaGreatDoorNl
import Derived.Test.YtdbhgkbmbbjpdaaGreatDoorOf
import Derived.Test.YtdbhgkbmbbjpdaaGreatDoorNh
import Derived.Deep.RegionLaw
import Derived.Laws.IdiomCopy
namespace Go.Proofs.YtdbhgkbmbbjpdaaGreatDoor.Chr
variable {lo : Nat}
open Go.ChangeShapes Go.WideShapes Go.ChangeAt Go.RowKit
open Shf (S str)
open Coin (Rd Row Own sz coin got Pur takeV endV CoinSaid)
open Frm (pack err size kind cnt body noItem itemV OneSaid)
set_option maxRecDepth 8000
set_option linter.unusedVariables false
open Shf (Tag Ext Rep M RdN)
def endL : List VolD → Nat → Nat
  | d :: d' :: l, u => if d.next ≤ u + 1 then endL (d' :: l) u + 1 else 0
  | _, _ => 0
theorem endL_lt : ∀ (l : List VolD) (u : Nat), l ≠ [] → endL l u < l.length
  | [], _, h => absurd rfl h
  | [d], _, _ => Nat.zero_lt_one
  | d :: d' :: l, u, _ => by
    unfold endL
    split
    · have := endL_lt (d' :: l) u (by simp)
      simp only [List.length_cons] at this ⊢
      omega
    · simp
theorem endL_at : ∀ (l : List VolD) (u k : Nat), k < endL l u → ∃ d, l[k]? = some d ∧ d.next ≤ u + 1 ∧ k + 1 < l.length
  | [], _, k, h => by unfold endL at h; omega
  | [d], _, k, h => by unfold endL at h; omega
  | d :: d' :: l, u, k, h => by
    unfold endL at h
    split at h
    · rename_i hd
      cases k with
      | zero => exact ⟨d, rfl, hd, by simp⟩
      | succ k =>
        obtain ⟨x, h1, h2, h3⟩ := endL_at (d' :: l) u k (by omega)
        exact ⟨x, h1, h2, by simp only [List.length_cons] at h3 ⊢; omega⟩
    · omega
theorem endL_stop : ∀ (l : List VolD) (u : Nat), (∃ d, l[endL l u]? = some d ∧ ¬ d.next ≤ u + 1) ∨ l.length ≤ endL l u + 1
  | [], _ => .inr (by simp)
  | [d], _ => .inr (by simp)
  | d :: d' :: l, u => by
    unfold endL
    split
    · rcases endL_stop (d' :: l) u with ⟨x, h1, h2⟩ | h
      · exact .inl ⟨x, h1, h2⟩
      · exact .inr (by simp only [List.length_cons] at h ⊢; omega)
    · rename_i hd
      exact .inl ⟨d, rfl, hd⟩
structure VolIn (w : World) (g o : Nat) (d : VolD) (lA : Option Addr) (lc : Nat) : Prop where
  k0 : w.cell? ⟨g, o, none⟩ = some (.int .u64 (d.no : Int))
  k1 : w.cell? ⟨g, o + 1, none⟩ = some (.int .u64 (d.first : Int))
  k2 : w.cell? ⟨g, o + 2, none⟩ = some (.slice lA d.its.length lc)
  k3 : w.cell? ⟨g, o + 3, none⟩ = some (.int .i64 (d.size : Int))
theorem VsAt.in' {w wr : World} {T : Nat → Tag} {A : Option Addr} {n cap : Nat} {vols : List VolD} {gv : Option Nat} (h : VsAt lo w T (.slice A n cap) vols gv) (B : Below w.heap.size w wr) (k : Nat) (hk : k < vols.length) :
    ∃ g off lA lc, A = some ⟨g, off, none⟩ ∧ n = vols.length ∧ vols.length ≤ cap ∧ VolIn wr g (off + k * 4) vols[k] lA lc := by
  obtain ⟨g, off, cap', lv, gl, e, rfl, hle, hv⟩ := h.at k hk
  injection e with e1 e2 e3
  subst e1 e2 e3
  obtain ⟨lA, lc, rfl⟩ := hv.la.form
  obtain ⟨f0, f1, f2, f3, -, -⟩ := hv
  have hgl := block_lt_of_cell f0
  exact ⟨g, off, lA, lc, rfl, rfl, hle, (B.cell (p := ⟨g, off + k * 4, none⟩) hgl).trans f0, (B.cell (p := ⟨g, off + k * 4 + 1, none⟩) hgl).trans f1, (B.cell (p := ⟨g, off + k * 4 + 2, none⟩) hgl).trans f2, (B.cell (p := ⟨g, off + k * 4 + 3, none⟩) hgl).trans f3⟩
set_option maxHeartbeats 2000000 in
theorem ended_any (w : World) (T : Nat → Tag) (p q : Nat) (c : CD) (h : CAt lo w T p q c) (hs : c.Small) (hne : c.vols ≠ []) (hfi : ∀ d ∈ c.vols, 0 < d.first) (u : Nat) (hu : u < 1000000000) :
    Calls Tryz.prog 61 #[.pointer (some ⟨p, 0, none⟩), .int .u64 (u : Int)] w fun e w' => e = .returned (.int .i64 ((endL c.vols u : Nat) : Int)) ∧ Below w.heap.size w w' := by
  obtain ⟨bA, bc, vv, gv, h⟩ := h
  obtain ⟨vA, vcap, rfl⟩ := h.nil
  have hlt := endL_lt c.vols u hne
  have hN := hs.n
  have HC := Lib.hid h
  have HS := Lib.hid hs
  have HFI := Lib.hid hfi
  obtain ⟨n, hn⟩ : ∃ n, n = c.vols.length := ⟨_, rfl⟩
  obtain ⟨E, hE⟩ : ∃ E, E = endL c.vols u := ⟨_, rfl⟩
  rw [← hn] at hlt hN
  rw [← hE] at hlt ⊢
  have HN := Lib.hid hn
  have HE := Lib.hid hE
  have hr := h.row
  unfold cC at hr
  rw [← hn] at hr
  have HR := Lib.hid hr
  clear h hs hfi hn hE hr hne
  go_enter Tryz.func61, Tryz.ntmps61
  go_wp2
  go_loopw [5] (fun v5 wr => ∃ k : Nat, k ≤ E ∧ v5 = .int .i64 (k : Int) ∧ Hid (Below w.heap.size w wr)) (fun v5 _ => E - (intOf v5).toNat)
  case atStart => exact ⟨0, by omega, rfl, Lib.hid (Below.refl _ _)⟩
  case round =>
    obtain ⟨k, hk, rfl, HB⟩ := hrel
    obtain ⟨p0, p1, p2, p3, p4, p5, p6, p7, -⟩ := row8 ((HB.out.block p (Array.getElem?_eq_some_iff.1 HR.out).1).trans HR.out)
    clear p0 p1 p2 p3 p4 p5 p7
    have hw1 : wrap64 ((k : Int) + 1) = ((k + 1 : Nat) : Int) := hw64 k n (by omega) hN
    by_cases hl : k + 1 < n
    · have hdl : decide ((k : Int) < (n : Int) - 1) = true := by simp; omega
      have hkl : k < c.vols.length := by rw [← HN.out]; omega
      obtain ⟨g, off, lA, lc, e, -, hcap, hv⟩ := HC.out.vs.in' HB.out k hkl
      subst e
      have hd := HS.out.v _ (List.getElem_mem hkl)
      have hf := HFI.out _ (List.getElem_mem hkl)
      have hkd : c.vols[k]? = some c.vols[k] := List.getElem?_eq_getElem hkl
      have HKD : Hid (k < E → c.vols[k].next ≤ u + 1) := Lib.hid (fun h => by
        obtain ⟨d, h1, h2, _⟩ := endL_at c.vols u k (by rw [← HE.out]; exact h)
        rw [hkd] at h1
        injection h1 with h1
        rw [h1]; exact h2)
      have HKS : Hid (k = E → ¬ c.vols[k].next ≤ u + 1) := Lib.hid (fun h => by
        rcases endL_stop c.vols u with ⟨d, h1, h2⟩ | h1
        · rw [← HE.out, ← h, hkd] at h1
          injection h1 with h1
          rw [h1]; exact h2
        · rw [← HE.out, ← h, ← HN.out] at h1; omega)
      clear hkd
      generalize c.vols[k] = d at *
      obtain ⟨f0, f1, f2, f3⟩ := hv
      obtain ⟨nx, hnx⟩ : ∃ x, x = d.first + d.its.length := ⟨_, rfl⟩
      have HNX : Hid (nx = d.next) := Lib.hid hnx
      have c50 := fun W => vnext_any W d.no d.first d.its.length lc lA (d.size : Int) hd.2.1 hd.2.2.1
      rw [← hnx] at c50
      have hnxb : 1 ≤ nx ∧ nx < 2000000000 := by omega
      have hsub : IntKind.u64.wrap ((nx : Int) - 1) = ((nx - 1 : Nat) : Int) := by rw [IntKind.wrap_u64]; omega
      have hkn : k < n := by omega
      clear hnx hd hf hkl
      by_cases hkE : k < E
      · have h1 := HKD.out hkE
        have hdd : decide (nx ≤ u + 1) = true := by have := HNX.out; simp; omega
        clear h1
        go_wp2_with (go_at_call 50; ((with_reducible refine (c50 _).mono ?_); rintro e w3 ⟨rfl, B3⟩; have HB3 := Lib.hid (HB.out.trans (B3.mono HB.out.size)); clear B3))
        go_roundw
        case rel => exact ⟨k + 1, by omega, by congr 1, HB3⟩
        case measure => simp [intOf]; omega
      · have h1 := HKS.out (by omega)
        have hdd : decide (nx ≤ u + 1) = false := by have := HNX.out; simp; omega
        obtain rfl : k = E := by omega
        clear h1
        go_wp2_with (go_at_call 50; ((with_reducible refine (c50 _).mono ?_); rintro e w3 ⟨rfl, B3⟩; have HB3 := Lib.hid (HB.out.trans (B3.mono HB.out.size)); clear B3))
        go_ret
        exact ⟨rfl, HB3.out⟩
    · have hdl : decide ((k : Int) < (n : Int) - 1) = false := by simp; omega
      obtain rfl : k = E := by
        rcases Nat.lt_or_ge k E with h1 | h1
        · obtain ⟨d, _, _, h3⟩ := endL_at c.vols u k (by rw [← HE.out]; exact h1)
          rw [← HN.out] at h3
          omega
        · omega
      go_wp2
      go_ret
      exact ⟨rfl, HB.out⟩
end Go.Proofs.YtdbhgkbmbbjpdaaGreatDoor.Chr
namespace Go.Proofs.YtdbhgkbmbbjpdaaGreatDoor.Chr
open Go.ChangeShapes Go.WideShapes Go.ChangeAt Go.RowKit
open Shf (S str)
open Coin (Rd Row Own sz coin got Pur takeV endV CoinSaid)
open Frm (pack err size kind cnt body noItem itemV OneSaid)
set_option maxRecDepth 8000
set_option linter.unusedVariables false
open Shf (Tag Ext Rep M RdN get Fine nameOk act_now ages wo wi Mv)
structure Rn (m md : M) (nm bs : S) : Prop where
  on : On md
  good : Shf.Good md.now
  ages : md.now = Shf.ages md.safe md.moves
  room : md.room = m.room
  named : md.named ≤ m.named + bs.length
  is : fileOf md nm = some bs
  sy : Synced md nm
  bes : get md.now besN = none
  rest : ∀ t, t ≠ nm → get md.now t = get m.now t ∧ fileOf md t = fileOf m t ∧ (Synced m t → Synced md t)
theorem lose_is (m : M) (s : S) : (m.lose s).now = m.now ∧ (m.lose s).safe = m.safe ∧ (m.lose s).moves = m.moves ∧ (m.lose s).fl = m.fl ∧ (m.lose s).room = m.room ∧ (m.lose s).named ≤ m.named ∧ (m.lose s).armed = m.armed ∧ (m.lose s).fallen = m.fallen ∧ (m.lose s).done = m.done := by
  unfold Shf.M.lose
  split
  · exact ⟨rfl, rfl, rfl, rfl, rfl, Nat.le_refl _, rfl, rfl, rfl⟩
  · exact ⟨rfl, rfl, rfl, rfl, rfl, Nat.sub_le _ _, rfl, rfl, rfl⟩
theorem Nw.ren {m mc : M} {nm bs : S} (h : Nw m mc besN bs) (hs : Synced mc besN) (G : Shf.Good m.now) (hg : get m.now besN = none) (ok : nameOk nm = true) (hne : nm ≠ []) (hbi : besN ≠ nm) : mc.renameE besN nm = 0 ∧ Rn m (mc.rename besN nm) nm bs := by
  obtain ⟨b, hb⟩ := h.now
  have hgb : get mc.now besN = some b := by rw [hb, Shf.get_app, hg]; simp [Shf.get]
  have eE : mc.renameE besN nm = 0 := by
    unfold Shf.M.renameE Shf.M.onE
    rw [ok, h.on.act.2, hgb]
    simp
  have hw : wo mc.now besN = m.now := by
    have e := Shf.wo_self (l := m.now) (s := besN) fun p hp e => Shf.get_none.1 hg p.2 (by rw [← e]; exact hp)
    rw [hb]
    unfold Shf.wo at e ⊢
    rw [List.filter_append, e]
    simp
  have eM : mc.rename besN nm = (({mc with done := mc.done + 1} : M).lose nm).mv ⟨besN, nm, some b⟩ := by
    unfold Shf.M.rename
    rw [ok, h.on.onF, hgb, h.on.act.1]
    simp only [Bool.true_eq_false, if_false, if_neg hbi]
  obtain ⟨l1, l2, l3, l4, l5, l6, l7, l8, _⟩ := lose_is ({mc with done := mc.done + 1} : M) nm
  have hnow : (mc.rename besN nm).now = wi m.now nm b := by
    rw [eM]
    show wi (wo (Shf.M.lose _ nm).now besN) nm b = _
    rw [l1]
    show wi (wo mc.now besN) nm b = _
    rw [hw]
  have hfl : (mc.rename besN nm).fl = mc.fl := by rw [eM]; exact l4
  have hget : ∀ t, get (mc.rename besN nm).now t = if t = nm then some b else get m.now t := fun t => by rw [hnow, Shf.get_wi]
  have hfresh : ∀ t, t ≠ nm → (t, b) ∉ m.now := fun t ht hm => by
    have e := h.good.one (s := t) (t := besN) (b := b) (by rw [hb]; exact List.mem_append_left _ hm) (by rw [hb]; exact List.mem_append_right _ (List.mem_singleton.2 rfl))
    rw [e] at hm
    exact Shf.get_none.1 hg b hm
  refine ⟨eE, ⟨by rw [eM]; exact ⟨l8.trans h.on.f, l7.trans h.on.a⟩, by rw [hnow]; exact G.wi nm b hne hfresh, ?_, by rw [eM]; exact l5.trans h.room, ?_, ?_, ?_, ?_, fun t ht => ⟨by rw [hget, if_neg ht], ?_, fun hs2 c hc => ?_⟩⟩⟩
  · rw [hnow, eM]
    show _ = Shf.ages (Shf.M.lose _ nm).safe ((Shf.M.lose _ nm).moves ++ [_])
    rw [l2, l3]
    show _ = Shf.ages mc.safe (mc.moves ++ [_])
    rw [ages_snoc, ← h.ages]
    show _ = wi (wo mc.now besN) nm b
    rw [hw]
  · rw [eM]
    show (Shf.M.lose _ nm).named ≤ _
    have e : ({mc with done := mc.done + 1} : M).named = m.named + bs.length := h.named
    omega
  · have hi := h.is
    unfold fileOf at hi ⊢
    rw [hgb] at hi
    rw [hget, if_pos rfl, hfl]
    exact hi
  · intro c hc
    rw [hget, if_pos rfl] at hc
    injection hc with hc
    rw [hfl, ← hc]
    exact hs b hgb
  · rw [hget, if_neg hbi, hg]
  · by_cases h2 : t = besN
    · unfold fileOf
      rw [h2, hget, if_neg hbi, hg]
      rfl
    · have := (h.rest t h2).1
      have hgt : get mc.now t = get m.now t := by rw [hb]; exact get_more _ _ _ t h2
      unfold fileOf at this ⊢
      rw [hget, if_neg ht, hfl, ← this, hgt]
  · rw [hget, if_neg ht] at hc
    by_cases h2 : t = besN
    · rw [h2, hg] at hc; cases hc
    · rw [hfl]
      exact (h.rest t h2).2 hs2 c (by rw [hb, get_more _ _ _ t h2]; exact hc)
theorem Rn.names {m md : M} {nm bs : S} (h : Rn m md nm bs) : md.actE = 0 ∧ Nw9 m md.names nm bs ∧ get md.names.now besN = none := by
  obtain ⟨e, o, n1, n2, n3, n4, n5, n6, n7, n8⟩ := names_on h.on h.ages
  have hf : ∀ t, fileOf md.names t = fileOf md t := fun t => by unfold fileOf; rw [n1, n8]
  have hsy : ∀ t, Synced md t → Synced md.names t := fun t hs b hb => by
    rw [n1] at hb
    rw [n8]
    exact hs b hb
  exact ⟨e, ⟨o, by rw [n1]; exact h.good, fun t ht => by rw [n1]; exact (h.rest t ht).1, by rw [n2, n1], n3, n4.trans h.room, n6, by rw [n7]; exact h.named, (hf nm).trans h.is, hsy nm h.sy, fun t ht => ⟨(hf t).trans (h.rest t ht).2.1, fun x => hsy t ((h.rest t ht).2.2 x)⟩⟩, by rw [n1]; exact h.bes⟩
theorem writeN_ok {m m1 : M} {nm bs : S} {en : Nat} (h : On m) (G : Shf.Good m.now) (F : m.now = Shf.ages m.safe m.moves) (ok : nameOk nm = true) (hne : nm ≠ []) (hbi : besN ≠ nm) (hg : get m.now besN = none) (hr : (m.named + m.gone + bs.length : Int) ≤ m.room) (hb : WRes m nm bs en m1) : en = 0 ∧ Nw9 m m1 nm bs ∧ get m1.now besN = none := by
  obtain ⟨eC, hC⟩ := create_on h G F besN (by decide) hg
  have s1 : ∀ ma, WSt m nm bs 1 ma → ma.appendE besN bs = 0 ∧ Nw m (ma.append besN bs) besN bs := fun ma ha => by
    obtain ⟨_, b, rfl, Ga⟩ := ha
    have n1 := (hC b).2 Ga
    have n2 := n1.app bs (by rw [n1.named, n1.gone, n1.room]; exact hr)
    rw [List.nil_append] at n2
    exact n2
  have s2 : ∀ ma, WSt m nm bs 2 ma → ma.onE besN = 0 ∧ Nw m (ma.sync besN) besN bs ∧ Synced (ma.sync besN) besN := fun ma ha => by
    obtain ⟨mb, hb, _, rfl⟩ := ha
    exact (s1 mb hb).2.sync
  have s3 : ∀ ma, WSt m nm bs 3 ma → ma.renameE besN nm = 0 ∧ Rn m (ma.rename besN nm) nm bs := fun ma ha => by
    obtain ⟨mb, hb, _, rfl⟩ := ha
    have s := s2 mb hb
    exact s.2.1.ren s.2.2 G hg ok hne hbi
  have s4 : ∀ ma, WSt m nm bs 4 ma → ma.actE = 0 ∧ Nw9 m ma.names nm bs ∧ get ma.names.now besN = none := fun ma ha => by
    obtain ⟨mb, hb, _, rfl⟩ := ha
    exact (s3 mb hb).2.names
  rcases hb with ⟨h0, hb⟩ | ⟨h0, ⟨e, _⟩ | ⟨ma, ha, e, rfl⟩ | ⟨ma, ha, e, rfl⟩ | ⟨ma, ha, e, rfl⟩ | ⟨ma, ha, e, rfl⟩⟩
  · obtain ⟨ma, ha, _, rfl⟩ := hb
    exact ⟨h0, (s4 ma ha).2⟩
  · exact absurd (e.trans eC) h0
  · exact absurd (e.trans (s1 ma ha).1) h0
  · exact absurd (e.trans (s2 ma ha).1) h0
  · exact absurd (e.trans (s3 ma ha).1) h0
  · exact absurd (e.trans (s4 ma ha).1) h0
theorem delete_on {m : M} (h : On m) (N : Fine m) {s : S} {b : Nat} (hg : get m.now s = some b) :
    m.onE s = 0 ∧ On (m.delete s) ∧ (m.delete s).named + (m.delete s).gone ≤ m.named + m.gone ∧ (m.delete s).now = wo m.now s ∧ (m.delete s).room = m.room ∧ (m.delete s).fl = m.fl ∧ (m.delete s).done = m.done + 1 := by
  have eE := onE_zero h hg
  have eM : m.delete s = (({m with done := m.done + 1} : M).lose s).mv ⟨s, [], none⟩ := by
    unfold Shf.M.delete
    rw [h.onF, hg, h.act.1]
  obtain ⟨l1, l2, l3, l4, l5, l6, l7, l8, l9⟩ := lose_is ({m with done := m.done + 1} : M) s
  have hnow : (m.delete s).now = wo m.now s := by
    rw [eM]
    show wo (Shf.M.lose _ s).now s = _
    rw [l1]
  have hle := Shf.tot_le (fl := m.fl) (Shf.mem_get hg)
  rw [← N.named] at hle
  refine ⟨eE, by rw [eM]; exact ⟨l8.trans h.f, l7.trans h.a⟩, ?_, hnow, by rw [eM]; exact l5, by rw [eM]; exact l4, by rw [eM]; exact l9⟩
  rw [eM]
  show (Shf.M.lose _ s).named + (Shf.M.lose _ s).gone ≤ _
  unfold Shf.M.lose
  show (match get m.now s with | none => _ | some b => _ : M).named + (match get m.now s with | none => _ | some b => _ : M).gone ≤ _
  rw [hg]
  show m.named - (m.fl b).1.length + (m.gone + (m.fl b).1.length) ≤ _
  omega
theorem tidyL_gone (own : List S) : ∀ (l : List S) (m : M), On m → Fine m → l.Nodup → (∀ s ∈ l, get m.now s ≠ none) → (tidyL own l m).1 = 0 ∧ On (tidyL own l m).2 ∧ Fine (tidyL own l m).2 ∧ (tidyL own l m).2.room = m.room ∧ (tidyL own l m).2.named + (tidyL own l m).2.gone ≤ m.named + m.gone ∧ (tidyL own l m).2.fl = m.fl ∧ (tidyL own l m).2.done ≤ m.done + l.length ∧ ∀ t, get (tidyL own l m).2.now t = if t ∈ l ∧ t ∉ own then none else get m.now t
  | [], m, h, F, _, _ => ⟨rfl, h, F, rfl, Nat.le_refl _, rfl, Nat.le_refl _, fun t => by show get m.now t = _; rw [if_neg (by simp)]⟩
  | s :: l, m, h, F, hd, hl => by
    rw [List.nodup_cons] at hd
    by_cases hs : s ∈ own
    · have ih := tidyL_gone own l m h F hd.2 fun t ht => hl t (List.mem_cons_of_mem _ ht)
      have e : tidyL own (s :: l) m = tidyL own l m := by unfold tidyL; rw [if_pos hs]; cases l <;> rfl
      rw [e]
      obtain ⟨i1, i2, i3, i4, i5, i6, i7, i8⟩ := ih
      refine ⟨i1, i2, i3, i4, i5, i6, Nat.le_trans i7 (by simp), fun t => ?_⟩
      rw [i8]
      by_cases ht : t = s
      · subst ht
        rw [if_neg (fun h => h.2 hs), if_neg (fun h => h.2 hs)]
      · simp [ht]
    · obtain ⟨b, hb⟩ : ∃ b, get m.now s = some b := by
        cases hc : get m.now s with
        | none => exact absurd hc (hl s List.mem_cons_self)
        | some b => exact ⟨b, rfl⟩
      obtain ⟨d1, d2, d3, d4, d5, d6, d7⟩ := delete_on h F hb
      have hg : ∀ t, get (m.delete s).now t = if t = s then none else get m.now t := fun t => by rw [d4, Shf.get_wo]
      have ih := tidyL_gone own l (m.delete s) d2 (F.delete s) hd.2 fun t ht => by
        rw [hg, if_neg (show ¬ t = s from fun e => hd.1 (e ▸ ht))]
        exact hl t (List.mem_cons_of_mem _ ht)
      have e : tidyL own (s :: l) m = tidyL own l (m.delete s) := by
        show (if s ∈ own then tidyL own l m else if m.onE s = 0 then tidyL own l (m.delete s) else _) = _
        rw [if_neg hs, if_pos d1]
      rw [e]
      obtain ⟨i1, i2, i3, i4, i5, i6, i7, i8⟩ := ih
      refine ⟨i1, i2, i3, i4.trans d5, Nat.le_trans i5 d3, i6.trans d6, by rw [d7] at i7; simp only [List.length_cons]; omega, fun t => ?_⟩
      rw [i8, hg]
      by_cases ht : t = s
      · subst ht
        have e1 : (if t ∈ t :: l ∧ t ∉ own then (none : Option Nat) else get m.now t) = none := if_pos ⟨List.mem_cons_self, hs⟩
        have e2 : (if t = t then (none : Option Nat) else get m.now t) = none := if_pos rfl
        rw [e1, e2]
        split <;> rfl
      · rw [if_neg ht]
        simp [ht]
structure Ty (own : List S) (m m' : M) : Prop where
  on : On m'
  fine : Fine m'
  safe : m'.now = m'.safe
  moves : m'.moves = []
  room : m'.room = m.room
  total : m'.named + m'.gone ≤ m.named + m.gone
  fl : m'.fl = m.fl
  get : ∀ t, get m'.now t = if t ∈ own then get m.now t else none
  done : m'.done ≤ m.done + m.now.length + 1
theorem tidy_gone {own : List S} {m : M} (h : On m) (F : Fine m) : (tidyM own m).1 = 0 ∧ Ty own m (tidyM own m).2 := by
  have hl : m.list = (m.now.map (·.1)).mergeSort (fun x y => decide (x ≤ y)) := by unfold Shf.M.list; rw [h.f]; rfl
  have hmem : ∀ s, s ∈ m.list ↔ Shf.get m.now s ≠ none := fun s => by
    rw [hl, List.mem_mergeSort, List.mem_map]
    constructor
    · rintro ⟨p, hp, rfl⟩ e
      exact Shf.get_none.1 e p.2 hp
    · intro hs
      cases hc : Shf.get m.now s with
      | none => exact absurd hc hs
      | some c => exact ⟨(s, c), Shf.mem_get hc, rfl⟩
  have hlen : m.list.length = m.now.length := by rw [hl, (List.mergeSort_perm _ _).length_eq, List.length_map]
  obtain ⟨i1, i2, i3, i4, i5, i6, i7, i8⟩ := tidyL_gone own m.list m h F (by rw [hl]; exact (List.mergeSort_perm _ _).nodup_iff.2 F.goodNow.keys) fun s hs => (hmem s).1 hs
  rw [hlen] at i7
  have i9 : ∀ t, Shf.get (tidyL own m.list m).2.now t = if t ∈ own then Shf.get m.now t else none := fun t => by
    rw [i8]
    by_cases ho : t ∈ own
    · rw [if_neg (fun h => h.2 ho), if_pos ho]
    · rw [if_neg ho]
      by_cases hm : t ∈ m.list
      · rw [if_pos ⟨hm, ho⟩]
      · rw [if_neg (fun h => hm h.1)]
        cases hc : Shf.get m.now t with
        | none => rfl
        | some c => exact absurd ((hmem t).2 (by rw [hc]; simp)) hm
  unfold tidyM tidyEnd
  generalize tidyL own m.list m = r at *
  obtain ⟨e, m1⟩ := r
  simp only at i1 i2 i3 i4 i5 i6 i7 i8 i9
  rw [if_pos i1]
  by_cases hm : m1.moves.length = 0
  · rw [if_pos hm]
    have hm0 : m1.moves = [] := List.eq_nil_of_length_eq_zero hm
    refine ⟨rfl, ⟨i2, i3, ?_, hm0, i4, i5, i6, i9, by show m1.done ≤ _; omega⟩⟩
    have := i3.now
    rw [hm0] at this
    exact this
  · rw [if_neg hm]
    obtain ⟨e, o, n1, n2, n3, n4, n5, n6, n7, n8⟩ := names_on i2 i3.now
    exact ⟨e, ⟨o, i3.names, by rw [n1, n2], n3, n4.trans i4, by rw [n6, n7]; omega, n8.trans i6, fun t => by rw [n1]; exact i9 t, by rw [n5]; show m1.done + 1 ≤ _; omega⟩⟩
end Go.Proofs.YtdbhgkbmbbjpdaaGreatDoor.Chr
namespace Go.Proofs.YtdbhgkbmbbjpdaaGreatDoor.Chr
variable {lo : Nat}
open Go.ChangeShapes Go.WideShapes Go.ChangeAt Go.RowKit
open Shf (S str)
open Coin (Rd Row Own sz coin got Pur takeV endV CoinSaid)
open Frm (pack err size kind cnt body noItem itemV OneSaid)
set_option maxRecDepth 8000
set_option linter.unusedVariables false
open Shf (Tag Ext Rep M RdN)
def putL (cur : Array Value) : Nat → List Value → Array Value
  | _, [] => cur
  | o, v :: vs => putL (cur.setIfInBounds o v) (o + 1) vs
theorem putL_size : ∀ (vs : List Value) (o : Nat) (cur : Array Value), (putL cur o vs).size = cur.size
  | [], _, _ => rfl
  | v :: vs, o, cur => by unfold putL; rw [putL_size vs]; simp
theorem putL_at : ∀ (vs : List Value) (o : Nat) (cur : Array Value) (j : Nat), j < cur.size → (putL cur o vs)[j]? = if o ≤ j ∧ j < o + vs.length then vs[j - o]? else cur[j]?
  | [], o, cur, j, hj => by
    unfold putL
    rw [if_neg (by simp)]
  | v :: vs, o, cur, j, hj => by
    unfold putL
    rw [putL_at vs (o + 1) _ j (by simpa using hj)]
    by_cases h1 : j = o
    · subst h1
      rw [if_neg (by omega), if_pos (by simp)]
      simp [hj]
    · by_cases h2 : o + 1 ≤ j ∧ j < o + 1 + vs.length
      · rw [if_pos h2, if_pos (by simp only [List.length_cons]; omega)]
        obtain ⟨d, hd⟩ : ∃ d, j - o = d + 1 := ⟨j - o - 1, by omega⟩
        rw [hd, List.getElem?_cons_succ, show j - (o + 1) = d by omega]
      · rw [if_neg h2, if_neg (by simp only [List.length_cons]; omega), Array.getElem?_setIfInBounds_ne (fun e => h1 e.symm)]
theorem row_setCells (g : Nat) (t : TypeId) : ∀ (vs : List Value) (o : Nat) (w : World) (cur : Array Value), w.heap[g]? = some (.cells cur t (0, 0)) → (w.setCells g o vs).heap[g]? = some (.cells (putL cur o vs) t (0, 0))
  | [], _, _, _, h => h
  | v :: vs, o, w, cur, h => row_setCells g t vs (o + 1) _ _ (heap_setCell_same w g o _ t v h)
theorem grown_setCells (g : Nat) : ∀ (vs : List Value) (o : Nat) (w : World), w.grownBy (w.setCells g o vs) (some g)
  | [], _, w => World.grownBy.refl w _
  | v :: vs, o, w => (show w.grownBy (w.setCell ⟨g, o, none⟩ v) (some g) from ⟨rfl, rfl, rfl, by simp [World.setCell], fun k _ hne => heap_setCell_other w ⟨g, o, none⟩ k v (fun e => hne (by rw [e]))⟩).trans (grown_setCells g vs (o + 1) _)
def zv60 : Value := .agg #[.int .u64 0, .int .u64 0, .slice none 0 0, .int .i64 0]
theorem run_clear_rows (w : World) (ty g off n c : Nat) (cur : Array Value) (hg : w.heap[g]? = some (.cells cur 60 (0, 0))) (hn : 0 < n) (hfit : off + n * 4 ≤ cur.size) :
    ∃ cur', (Builtin.clear_ #[53] ty #[.slice (some ⟨g, off, none⟩) n c]).run Tryz.prog w = .ok (.tuple #[]) (w.setRow g cur') ∧ cur'.size = cur.size ∧ ∀ j, j < off → cur'[j]? = cur[j]? := by
  have hz : ∀ w, (zeroValue 60).run Tryz.prog w = .ok zv60 w := fun w => rfl
  have hs : (Builtin.zeroCells zv60.cells n).toList.length = n * 4 := by
    rw [Array.length_toList, size_zeroCells]; rfl
  have h1 : ∀ u ∈ (Builtin.zeroCells zv60.cells n).toList, u.oneCell' = true := fun u hu => by
    simp only [Builtin.zeroCells, Array.toList_map, List.mem_map] at hu
    obtain ⟨j, _, rfl⟩ := hu
    have e4 : zv60.cells.size = 4 := rfl
    rw [e4]
    have hj : j % 4 = 0 ∨ j % 4 = 1 ∨ j % 4 = 2 ∨ j % 4 = 3 := by omega
    rcases hj with h | h | h | h <;> (rw [h]; rfl)
  have hst := run_storeCells_at Tryz.prog g off 60 (Builtin.zeroCells zv60.cells n).toList 0 cur w hg (by rw [hs]; simpa using hfit) h1
  simp only [Nat.add_zero] at hst
  rw [hs] at hst
  obtain ⟨k, rfl⟩ : ∃ k, n = k + 1 := ⟨n - 1, by omega⟩
  generalize hcl : (Builtin.zeroCells zv60.cells (k + 1)).toList = news at *
  refine ⟨(cur.toList.take off ++ news ++ cur.toList.drop (off + (k + 1) * 4)).toArray, ?_, ?_, fun j hj => ?_⟩
  · simp [Builtin.clear_, run_underlying Tryz.underlying53, hz, hcl, hst]
  · simp only [List.size_toArray, List.length_append, List.length_take, List.length_drop, Array.length_toList]
    omega
  · rw [List.getElem?_toArray, List.append_assoc, List.getElem?_append_left (by rw [List.length_take, Array.length_toList]; omega), List.getElem?_take_of_lt hj]
    simp
theorem info60' : ∃ i, Tryz.prog.info? 60 = some i ∧ i.zero = some zv60 ∧ i.size = 4 ∧ i.bytes = 48 := info_parts (by kernel_rfl)
theorem delete_zero (w : World) (g off n cap : Nat) (hn : n ≤ cap) (hm : cap ≤ maxLen) : Calls Tryz.prog 63 #[.slice (some ⟨g, off, none⟩) n cap, .int .i64 0, .int .i64 0] w fun e w' => e = .returned (.slice (some ⟨g, off, none⟩) n cap) ∧ w = w' := by
  unfold maxLen at hm
  go_enter Tryz.func63, Tryz.ntmps63
  go_wp2
  all_goals
    go_ret
    exact ⟨rfl, rfl⟩
set_option maxHeartbeats 2000000 in
theorem delete_some (w : World) (g off n cap k : Nat) (cur : Array Value) (xs : List Value) (hg : w.heap[g]? = some (.cells cur 60 (0, 0))) (hfit : off + cap * 4 ≤ cur.size) (hn : n ≤ cap) (hm : cap ≤ maxLen) (hxs : (cur.toList.drop off).take (n * 4) = xs) (h1 : ∀ u ∈ xs, u.oneCell' = true) (hk0 : 0 < k) (hk : k < n) :
    Calls Tryz.prog 63 #[.slice (some ⟨g, off, none⟩) n cap, .int .i64 0, .int .i64 (k : Int)] w fun e w' => e = .returned (.slice (some ⟨g, off, none⟩) (n - k) cap) ∧ w.grownBy w' (some g) ∧ ∃ cur', w'.heap[g]? = some (.cells cur' 60 (0, 0)) ∧ cur'.size = cur.size ∧ (cur'.toList.drop off).take ((n - k) * 4) = xs.drop (k * 4) := by
  unfold maxLen at hm
  obtain ⟨i0, hi0, hz0, hz1, hz2⟩ := info60'
  have hxl : xs.length = n * 4 := by rw [← hxs, List.length_take, List.length_drop, Array.length_toList]; omega
  have hxa : ∀ j, j < n * 4 → cur[off + j]? = xs[j]? := fun j hj => by
    rw [← hxs, List.getElem?_take_of_lt hj, List.getElem?_drop]
    simp
  have hnl : (xs.drop (k * 4)).length = (n - k) * 4 := by rw [List.length_drop, hxl]; omega
  have hnews : ∀ j u, (xs.drop (k * 4))[j]? = some u → w.drew.cell? ((⟨g, off + k * 4, none⟩ : Addr).add j) = some u := fun j u hj => by
    have hlt := (List.getElem?_eq_some_iff.1 hj).1
    rw [hnl] at hlt
    rw [List.getElem?_drop] at hj
    rw [Addr.add_lit]
    show w.cell? _ = _
    rw [cell_of_row w g (off + k * 4 + j) _ 60 (0, 0) hg, Nat.add_assoc, hxa _ (by omega), hj]
  have hone : ∀ u ∈ xs.drop (k * 4), u.oneCell' = true := fun u hu => h1 u (List.mem_of_mem_drop hu)
  have hthere : ∀ j, j < (xs.drop (k * 4)).length → (w.drew.cell? ⟨g, off + 0 * 4 + j, none⟩).isSome = true ∧ w.drew.frozen? ⟨g, off + 0 * 4 + j, none⟩ = false := fun j hj => by
    rw [hnl] at hj
    refine ⟨?_, frozen_of_row w g _ _ 60 hg⟩
    show (w.cell? _).isSome = true
    rw [cell_of_row w g (off + 0 * 4 + j) _ 60 (0, 0) hg, Array.getElem?_eq_getElem (by omega)]
    rfl
  obtain ⟨W1, hW1⟩ : ∃ W1, W1 = w.drew.setCells g (off + 0 * 4) (xs.drop (k * 4)) := ⟨_, rfl⟩
  have hr1 : W1.heap[g]? = some (.cells (putL cur (off + 0 * 4) (xs.drop (k * 4))) 60 (0, 0)) := by rw [hW1]; exact row_setCells g 60 _ _ w.drew cur hg
  have hg1 : w.grownBy W1 (some g) := by rw [hW1]; exact (⟨rfl, rfl, rfl, Nat.le_refl _, fun _ _ _ => rfl⟩ : w.grownBy w.drew (some g)).trans (grown_setCells g _ _ _)
  have hps := putL_size (xs.drop (k * 4)) (off + 0 * 4) cur
  have hpa := fun j => putL_at (xs.drop (k * 4)) (off + 0 * 4) cur j
  generalize hP : putL cur (off + 0 * 4) (xs.drop (k * 4)) = cur1 at *
  obtain ⟨cur2, hcl, hc2, hc3⟩ := run_clear_rows W1 0 g (off + (n - k) * 4) k (cap - (n - k)) cur1 hr1 hk0 (by rw [hps]; omega)
  have hcl : ∀ ty, (Builtin.clear_ #[53] ty #[.slice (some ⟨g, off + (n - k) * 4, none⟩) (n - (n - k)) (cap - (n - k))]).run Tryz.prog W1 = .ok (.tuple #[]) (W1.setRow g cur2) := fun ty => by rw [show n - (n - k) = k by omega]; exact hcl
  have HR : Hid (w.grownBy (W1.setRow g cur2) (some g) ∧ ∃ cur', (W1.setRow g cur2).heap[g]? = some (.cells cur' 60 (0, 0)) ∧ cur'.size = cur.size ∧ (cur'.toList.drop off).take ((n - k) * 4) = xs.drop (k * 4)) := by
    refine ⟨hg1.trans ⟨rfl, rfl, rfl, by simp, fun i _ hne => setRow_other W1 g i _ (fun e => hne (by rw [e]))⟩, cur2, setRow_heap W1 g _ _ 60 _ hr1, by rw [hc2, hps], ?_⟩
    apply List.ext_getElem?
    intro j
    by_cases hj : j < (n - k) * 4
    · rw [List.getElem?_take_of_lt hj, List.getElem?_drop]
      have e := hc3 (off + j) (by omega)
      have e2 := hpa (off + j) (by omega)
      rw [if_pos (by rw [hnl]; omega), show off + j - (off + 0 * 4) = j by omega] at e2
      rw [← e2, ← e]
      simp
    · rw [List.getElem?_eq_none (by rw [List.length_take]; omega), List.getElem?_eq_none (by rw [hnl]; omega)]
  have s1 := Lib.hid hnl
  have s2 := Lib.hid hnews
  have s3 := Lib.hid hone
  have s4 := Lib.hid hthere
  have HW := Lib.hid hW1
  have hkc : k ≤ cap := by omega
  have hkn : k ≤ n := by omega
  have hck : ¬ cap = k := by omega
  clear hg hfit hxs h1 hxl hxa hnl hnews hone hthere hW1 hr1 hg1 hps hpa hP hc2 hc3 cur1
  go_enter Tryz.func63, Tryz.ntmps63
  go_wp2_with fail
  go_region_law (refine step_append_room rfl (.tmp 22) (.tmp 25) 53 rfl 60 i0 4 Tryz.underlying53 hi0 hz1 g off 0 cap (by simp [Act.eval, Act.put]) ⟨g, off + k * 4, none⟩ (n - k) (cap - k) (xs.drop (k * 4)) (by simp [Act.eval, Act.put]) s1.out s2.out s3.out (by omega) s4.out ?_; rw [← HW.out])
  go_wp2
  go_ret
  exact ⟨rfl, HR.out⟩
theorem flat_drop (vs : List (VolD × Value × Option Nat)) : ∀ k, (vs.flatMap volP).drop (k * 4) = (vs.drop k).flatMap volP := by
  induction vs with
  | nil => intro k; simp
  | cons x vs ih =>
    intro k
    cases k with
    | zero => simp
    | succ k =>
      rw [List.flatMap_cons, List.drop_succ_cons, ← ih k]
      have hl : (volP x).length = 4 := rfl
      rw [show (k + 1) * 4 = (volP x).length + k * 4 by rw [hl]; omega, List.drop_append, List.drop_of_length_le (by omega), Nat.add_sub_cancel_left, List.nil_append]
theorem vol_one (vs : List (VolD × Value × Option Nat)) (hv : ∀ x ∈ vs, ∃ A c, x.2.1 = .slice A x.1.its.length c) : ∀ u ∈ vs.flatMap volP, u.oneCell' = true := fun u hu => by
  obtain ⟨x, hx, hu⟩ := List.mem_flatMap.1 hu
  obtain ⟨A, c, e⟩ := hv x hx
  simp only [volP, List.mem_cons, List.not_mem_nil, or_false] at hu
  rcases hu with rfl | rfl | rfl | rfl
  · rfl
  · rfl
  · rw [e]; rfl
  · rfl
theorem delete_vols (w : World) (T : Nat → Tag) (v : Value) (vols : List VolD) (gv : Option Nat) (h : VsAt lo w T v vols gv) (hn : vols.length ≤ 1000) (k : Nat) (hk : k < vols.length) (hlv : ∀ x : VolD × Value × Option Nat, LAt w T x.2.1 x.1.its x.2.2 → ∃ A c, x.2.1 = .slice A x.1.its.length c) :
    Calls Tryz.prog 63 #[v, .int .i64 0, .int .i64 (k : Int)] w fun e w' => ∃ v', e = .returned v' ∧ VsAt lo w' T v' (vols.drop k) gv ∧ ∃ g, gv = some g ∧ w.grownBy w' (some g) ∧ ∃ cur, w.heap[g]? = some (.cells cur 60 (0, 0)) := by
  obtain ⟨vs, h1, h2, h3, h4, h5, h6, h7⟩ := h
  obtain ⟨h0, A, cap, rfl, hc, hm, ha, hb, hr⟩ := h2
  obtain ⟨g, off, cur, rfl, hgv, hg, hfit, hxs⟩ := hr (by omega)
  by_cases hk0 : k = 0
  · subst hk0
    refine (delete_zero w g off vols.length cap hc hm).mono ?_
    rintro e w' ⟨rfl, rfl⟩
    exact ⟨_, rfl, ⟨vs, h1, ⟨h0, _, cap, rfl, hc, hm, ha, hb, hr⟩, h3, h4, h5, h6, h7⟩, g, hgv, World.grownBy.refl w _, cur, hg⟩
  · have hone := vol_one vs fun x hx => hlv x (h4 x hx)
    refine (delete_some w g off vols.length cap k cur _ hg hfit hc hm hxs hone (by omega) hk).mono ?_
    rintro e w' ⟨rfl, G, cur', hg', hs', hx'⟩
    have hvl : vs.length = vols.length := by rw [← h1, List.length_map]
    have n5 : NotTy w g 5 := notTy hg (by decide)
    have n75 : NotTy w g 75 := notTy hg (by decide)
    refine ⟨_, rfl, ⟨vs.drop k, by rw [List.map_drop, h1], ⟨?_, _, cap, ?_, by rw [List.length_drop]; omega, hm, (fun h => by cases h), hb, fun _ => ⟨g, off, cur', rfl, hgv, hg', by rw [hs']; exact hfit, ?_⟩⟩, h3, fun x hx => ?_, h5.sublist (List.drop_sublist k vs), h6, fun x hx => h7 x (List.mem_of_mem_drop hx)⟩, g, hgv, G, cur, hg⟩
    · rw [← flat_drop, List.length_drop, h0, List.length_drop]; omega
    · rw [List.length_drop]
    · rw [List.length_drop, hx', flat_drop]
    · have hx2 := h4 x (List.mem_of_mem_drop hx)
      exact hx2.grown G n5 (hx2.ne n75)
end Go.Proofs.YtdbhgkbmbbjpdaaGreatDoor.Chr
namespace Go.Proofs.YtdbhgkbmbbjpdaaGreatDoor.Chr
open Go.ChangeShapes Go.WideShapes Go.ChangeAt Go.RowKit
open Shf (S str)
open Coin (Rd Row Own sz coin got Pur takeV endV CoinSaid)
open Frm (pack err size kind cnt body noItem itemV OneSaid)
set_option maxRecDepth 8000
set_option linter.unusedVariables false
open Shf (Tag Ext Rep M RdN get Fine nameOk act_now ages wo wi Mv)
def foldC (c : CD) (u : Nat) (p : S) : CD := {c with hF := c.hF + endL c.vols u, hB := c.hB + 1, hU := u, base := p, vols := c.vols.drop (endL c.vols u), full := false}
theorem getLast_drop (l : List VolD) (k : Nat) (h : k < l.length) : (l.drop k).getLast? = l.getLast? := by
  rw [List.getLast?_drop]
  rw [if_neg (by omega)]
theorem fold_next (c : CD) (u : Nat) (p : S) (h : c.vols ≠ []) : (foldC c u p).next = c.next := by
  unfold CD.next foldC
  simp only
  rw [getLast_drop _ _ (endL_lt c.vols u h)]
  cases hl : c.vols.getLast? with
  | none => exact absurd (List.getLast?_eq_none_iff.1 hl) h
  | some d => rfl
theorem fold_first {c : CD} {m : M} (h : CG c m) (u : Nat) (hu : c.hU < u) (d : VolD) (hd : c.vols[endL c.vols u]? = some d) : d.first ≤ u + 1 := by
  rcases Nat.eq_zero_or_pos (endL c.vols u) with h0 | h0
  · rw [h0] at hd
    have := h.f0 d hd
    omega
  · obtain ⟨x, h1, h2, h3⟩ := endL_at c.vols u (endL c.vols u - 1) (by omega)
    have := h.fi _ x d h1 (by rw [show endL c.vols u - 1 + 1 = endL c.vols u by omega]; exact hd)
    omega
theorem CG.vols_ne {c : CD} {m : M} (h : CG c m) (u : Nat) (hu : c.hU < u) (hn : u < c.next) : c.vols ≠ [] := fun e => by
  unfold CD.next at hn
  rw [e] at hn
  have : u < c.hU + 1 := hn
  omega
theorem bn_ne (i : Nat) (hi : i < 100) : bName i ≠ idxN ∧ bName i ≠ besN ∧ bName i ≠ [] ∧ nameOk (bName i) = true ∧ (bName i).length ≤ 1000 := by
  have : ∀ i : Fin 100, bName i.1 ≠ idxN ∧ bName i.1 ≠ besN ∧ bName i.1 ≠ [] ∧ nameOk (bName i.1) = true ∧ (bName i.1).length ≤ 1000 := by decide +kernel
  exact this ⟨i, hi⟩
theorem fold_own (c : CD) (u : Nat) (p : S) : (foldC c u p).own = (c.vols.drop (endL c.vols u)).map (fun d => vName d.no) ++ [bName (c.hB + 1), idxN] := by
  unfold CD.own CD.own0 foldC
  simp
theorem CG.folded {c : CD} {ms mb mi mt : M} (h : CG c ms) (hs : AllSync c ms) (N : CN c) (hB : c.hB < 98) (u : Nat) (hu : c.hU < u) (hn : u < c.next) (p : S) (hp : p.length ≤ 1048576)
    (w1 : Nw9 ms mb (bName (c.hB + 1)) (pack 98 p)) (w2 : Nw9 mb mi idxN (headB (c.hF + endL c.vols u) (c.hB + 1) u)) (ty : Ty (foldC c u p).own mi mt) :
    CG (foldC c u p) mt ∧ AllSync (foldC c u p) mt ∧ CN (foldC c u p) ∧ mt.room = ms.room ∧ mt.named + mt.gone ≤ ms.named + (pack 98 p).length + (headB (c.hF + endL c.vols u) (c.hB + 1) u).length := by
  have hne := h.vols_ne u hu hn
  have hlt := endL_lt c.vols u hne
  obtain ⟨b1, b2, b3, b4, b5⟩ := bn_ne (c.hB + 1) (by omega)
  have hown := fold_own c u p
  have hin : ∀ d ∈ c.vols.drop (endL c.vols u), d ∈ c.vols := fun d hd => List.mem_of_mem_drop hd
  have gt : ∀ t, t ∈ (foldC c u p).own → fileOf mt t = fileOf mi t ∧ (Synced mi t → Synced mt t) := fun t ht => by
    have e := ty.get t
    rw [if_pos ht] at e
    refine ⟨by unfold fileOf; rw [e, ty.fl], fun hs b hb => ?_⟩
    rw [e] at hb
    rw [ty.fl]
    exact hs b hb
  have o1 : idxN ∈ (foldC c u p).own := by rw [hown]; simp
  have o2 : bName (c.hB + 1) ∈ (foldC c u p).own := by rw [hown]; simp
  have o3 : ∀ d ∈ c.vols.drop (endL c.vols u), vName d.no ∈ (foldC c u p).own := fun d hd => by
    rw [hown]; exact List.mem_append_left _ (List.mem_map.2 ⟨d, hd, rfl⟩)
  have vf : ∀ d ∈ c.vols.drop (endL c.vols u), fileOf mt (vName d.no) = fileOf ms (vName d.no) ∧ Synced mt (vName d.no) := fun d hd => by
    have hno := h.no_lt N (hin d hd)
    have n1 : vName d.no ≠ idxN := (vn_idx d.no (by omega)).1
    have n2 : vName d.no ≠ bName (c.hB + 1) := vn_bn d.no _ (by omega) (by omega)
    exact ⟨(gt _ (o3 d hd)).1.trans ((w2.rest _ n1).1.trans (w1.rest _ n2).1), (gt _ (o3 d hd)).2 ((w2.rest _ n1).2 ((w1.rest _ n2).2 (hs d (hin d hd))))⟩
  have hat : ∀ i, (c.vols.drop (endL c.vols u))[i]? = c.vols[endL c.vols u + i]? := fun i => List.getElem?_drop
  refine ⟨⟨ty.on, by rw [ty.moves]; exact ty.safe, ty.fine.goodNow, ty.moves, ⟨(gt _ o1).1.trans w2.is, (gt _ o1).2 w2.sy⟩, fun _ => ⟨(gt _ o2).1.trans ((w2.rest _ b1).1.trans w1.is), (gt _ o2).2 ((w2.rest _ b1).2 w1.sy), hp⟩, fun e => (by cases e), fun d hd => ?_, fun d hd => (vf d (List.dropLast_subset _ hd)).2, fun i d hd => ?_, fun i d d' hd hd' => ?_, fun d hd => ?_, ?_, fun s hs => ?_, rfl⟩, fun d hd => (vf d hd).2, ⟨?_, by show c.hB + 1 < 99; omega⟩, ty.room.trans (w2.room.trans w1.room), ?_⟩
  · have := h.vo d (hin d hd)
    exact ⟨(vf d hd).1.trans this.1, this.2⟩
  · have hd : (c.vols.drop (endL c.vols u))[i]? = some d := hd
    rw [hat] at hd
    show d.no = c.hF + endL c.vols u + i
    rw [h.nos _ d hd]
    omega
  · have hd : (c.vols.drop (endL c.vols u))[i]? = some d := hd
    have hd' : (c.vols.drop (endL c.vols u))[i + 1]? = some d' := hd'
    rw [hat] at hd hd'
    exact h.fi _ d d' hd (by rw [show endL c.vols u + i + 1 = endL c.vols u + (i + 1) by omega]; exact hd')
  · have hd : (c.vols.drop (endL c.vols u))[0]? = some d := hd
    rw [hat] at hd
    exact fold_first h u hu d (by simpa using hd)
  · rw [fold_next c u p hne]
    exact hn
  · have e := ty.get s
    by_cases ho : s ∈ (foldC c u p).own
    · rw [hown] at ho
      rcases List.mem_append.1 ho with ho | ho
      · obtain ⟨d, hd, rfl⟩ := List.mem_map.1 ho
        exact .inr (.inr ⟨d, hd, rfl⟩)
      · simp only [List.mem_cons, List.not_mem_nil, or_false] at ho
        rcases ho with rfl | rfl
        · exact .inr (.inl ⟨by show c.hB + 1 ≠ 0; omega, rfl⟩)
        · exact .inl rfl
    · rw [if_neg ho] at e
      exact absurd e hs
  · show c.hF + endL c.vols u + (c.vols.drop (endL c.vols u)).length < 99
    rw [List.length_drop]
    have := N.no
    omega
  · have h1 := ty.total
    have h2 := w2.named
    have h3 := w2.gone
    have h4 := w1.named
    omega
end Go.Proofs.YtdbhgkbmbbjpdaaGreatDoor.Chr
