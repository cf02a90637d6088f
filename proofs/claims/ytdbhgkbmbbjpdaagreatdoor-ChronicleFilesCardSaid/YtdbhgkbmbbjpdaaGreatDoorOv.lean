/- The law's bytes of a record. told, where nothing is folded. Base, Full, endedBy. A file undone: what tidy deletes where there is one file more than there should be. A chronicle and its shelf where a record was refused. A record refused: what there was is there. A record more, by what Append answers. Append, where there may be no room. What a record more is to what a chronicle tells. A chronicle with the records of a list of numbers, nothing folded. -/
import Derived.Test.YtdbhgkbmbbjpdaaGreatDoorOg
namespace Go.Proofs.YtdbhgkbmbbjpdaaGreatDoor.Chr
open Go.ChangeShapes Go.WideShapes Go.ChangeAt Go.RowKit
open Shf (S str)
open Coin (Rd Row Own sz coin got Pur takeV endV CoinSaid)
open Frm (pack err size kind cnt body noItem itemV OneSaid)
set_option maxRecDepth 8000
set_option linter.unusedVariables false
open Shf (Tag Ext Rep M RdN get Fine)
def byJ (n k j : Nat) : S := (List.range k).map fun i => if i < j then UInt8.ofNat (n + i) else 0
def byL (n : Nat) : S := byJ n (n % 17) (n % 17)
theorem byJ_len (n k j : Nat) : (byJ n k j).length = k := by unfold byJ; simp
theorem byL_len (n : Nat) : (byL n).length ≤ 16 := by unfold byL; rw [byJ_len]; omega
theorem byJ_zero (n k : Nat) : byJ n k 0 = List.replicate k 0 := by
  unfold byJ
  apply List.ext_getElem <;> simp
theorem byJ_set (n k j : Nat) (hj : j < k) : (byJ n k j).set j (UInt8.ofNat (n + j)) = byJ n k (j + 1) := by
  unfold byJ
  apply List.ext_getElem
  · simp
  · intro i h1 h2
    simp only [List.length_set, List.length_map, List.length_range] at h1
    rw [List.getElem_set]
    simp only [List.getElem_map, List.getElem_range]
    by_cases h : j = i
    · subst h
      simp
    · rw [if_neg h]
      by_cases h3 : i < j
      · rw [if_pos h3, if_pos (by omega)]
      · rw [if_neg h3, if_neg (by omega)]
theorem row_set {w : World} {g j : Nat} {l : S} (h : Row w g l) (hj : j < l.length) (b : UInt8) : Row (w.setCell ⟨g, j, none⟩ (Coin.b8 b)) g (l.set j b) := by
  have e := heap_setCell_same w g j _ 5 (Coin.b8 b) h
  show _ = _
  rw [e]
  congr 2
  apply Array.ext'
  rw [Array.toList_setIfInBounds]
  simp [List.map_set]
set_option maxHeartbeats 2000000 in
theorem by_any (w : World) (n : Nat) (hn : n < 256) : Calls Tryz.prog 22 #[.int .u8 (n : Int)] w fun e w' => ∃ g k, e = .returned (.slice (some ⟨g, 0, none⟩) k k) ∧ k = (byL n).length ∧ Row w' g (byL n) ∧ w.heap.size ≤ g ∧ Below w.heap.size w w' := by
  obtain ⟨k, hk⟩ : ∃ k, k = n % 17 := ⟨_, rfl⟩
  have hk17 : k < 17 := by omega
  have hrem : (n : Int).tmod 17 = (k : Int) := by rw [hk, Int.tmod_eq_emod_of_nonneg (by omega)]; omega
  have hmk : ∀ w : World, (Instr.makeSlice 30 (.int .u8 (k : Int)) (.int .u8 (k : Int))).run Tryz.prog w = .ok (.slice (some ⟨w.heap.size, 0, none⟩) k k) (w.alloc (.cells (madeCells #[.int .u8 0] k) 5)) := fun w => run_make_row' (P := Tryz.prog) 30 5 (.int .u8 0) 1 Tryz.underlying30 Coin.info5 rfl .u8 .u8 k (by omega) (by omega) w
  have N1 : Row (w.alloc (.cells (madeCells #[.int .u8 0] k) 5)) w.heap.size (byJ n k 0) := by rw [byJ_zero]; exact Coin.Row.new w k
  have B1 : Below w.heap.size w (w.alloc (.cells (madeCells #[.int .u8 0] k) 5)) := (Below.refl _ _).alloc (Nat.le_refl _) _
  obtain ⟨g, hg⟩ : ∃ g, g = w.heap.size := ⟨_, rfl⟩
  rw [← hg] at N1
  have HS0 : Hid (Row (w.alloc (.cells (madeCells #[.int .u8 0] k) 5)) g (byJ n k 0) ∧ Below w.heap.size w (w.alloc (.cells (madeCells #[.int .u8 0] k) 5))) := ⟨N1, B1⟩
  have HK := Lib.hid (And.intro hk (And.intro hg hk17))
  clear N1 B1 hk
  go_enter Tryz.func22, Tryz.ntmps22
  go_upto_region 2 with (fail)
  rw [← hg]
  clear hg hmk hrem
  go_wp2
  go_loopw [4] (fun i wr => ∃ j : Nat, i = .int .i64 (j : Int) ∧ j ≤ k ∧ Hid (Row wr g (byJ n k j) ∧ Below w.heap.size w wr)) (fun i _ => k - (intOf i).toNat)
  case atStart => exact ⟨0, rfl, Nat.zero_le _, HS0⟩
  case round =>
    clear HS0
    obtain ⟨j, rfl, hjk, HJ⟩ := hrel
    by_cases hj : j < k
    · have hj' : (j : Int) < k := by omega
      have hw1 : IntKind.i64.wrap ((j : Int) + 1) = ((j + 1 : Nat) : Int) := by rw [IntKind.wrap_i64]; omega
      have hc1 : IntKind.u8.wrap (j : Int) = (j : Int) := by rw [IntKind.wrap_u8]; omega
      have hc2 : IntKind.u8.wrap ((n : Int) + (j : Int)) = ((n + j) % 256 : Nat) := by rw [IntKind.wrap_u8]; omega
      have hl : j < (byJ n k j).length := by rw [byJ_len]; exact hj
      obtain ⟨u0, y0⟩ : ∃ u, wr.cell? ⟨g, j, none⟩ = some u := ⟨Coin.b8 (byJ n k j)[j], by
        rw [cell_of_row wr g j _ 5 (0, 0) HJ.out.1, List.getElem?_toArray, List.getElem?_map, List.getElem?_eq_getElem hl]
        rfl⟩
      have yf : wr.frozen? ⟨g, j, none⟩ = false := frozen_of_row wr g j _ 5 HJ.out.1
      have R2 := row_set HJ.out.1 hl (UInt8.ofNat (n + j))
      rw [byJ_set n k j hj] at R2
      have eb : Coin.b8 (UInt8.ofNat (n + j)) = .int .u8 (((n + j) % 256 : Nat) : Int) := by unfold Coin.b8; simp
      rw [eb] at R2
      have G := Shf.grown_set wr g j (.int .u8 (((n + j) % 256 : Nat) : Int))
      have HJ2 : Hid (Row (wr.setCell ⟨g, j, none⟩ (.int .u8 (((n + j) % 256 : Nat) : Int))) g (byJ n k (j + 1)) ∧ Below w.heap.size w (wr.setCell ⟨g, j, none⟩ (.int .u8 (((n + j) % 256 : Nat) : Int)))) := ⟨R2, Coin.below_grown HJ.out.2 G (by rw [HK.out.2.1]; exact Nat.le_refl _)⟩
      have HJK := Lib.hid hj
      clear hl R2 eb G hj hjk
      go_wp2
      go_roundw
      case rel => exact ⟨j + 1, rfl, HJK.out, HJ2⟩
      case measure => have := HJK.out; simp [intOf]; omega
    · have hj' : ¬ (j : Int) < k := by omega
      have hjk' : j = k := by omega
      have HF : Hid (Row wr g (byL n) ∧ k = (byL n).length) := ⟨by
        have h := HJ.out.1
        rw [hjk'] at h
        show Row wr g (byJ n (n % 17) (n % 17))
        rw [← HK.out.1]
        exact h, by unfold byL; rw [byJ_len, HK.out.1]⟩
      clear hjk' hj hjk
      go_wp2
      go_ret
      exact ⟨g, k, rfl, HF.out.2, HF.out.1, by rw [HK.out.2.1]; exact Nat.le_refl _, HJ.out.2⟩
set_option linter.unusedVariables false
open Shf (Tag Ext Rep M RdN get Fine)
variable {lo : Nat}
structure Has (c : CD) (l : S) : Prop where
  hU : c.hU = 0
  hB : c.hB = 0
  next : c.next = l.length + 1
  recs : c.recs.map (fun x => (x.k.toNat, x.p)) = l.map fun b => (107 + b.toNat % 3, byL b.toNat)
  len : l.length ≤ 900
set_option linter.unusedVariables false
open Shf (Tag Ext Rep M RdN get Fine)
end Go.Proofs.YtdbhgkbmbbjpdaaGreatDoor.Chr
namespace Go.Proofs.YtdbhgkbmbbjpdaaGreatDoor.Chr
open Go.ChangeShapes Go.WideShapes Go.ChangeAt Go.RowKit
open Shf (S str)
open Coin (Rd Row Own sz coin got Pur takeV endV CoinSaid)
open Frm (pack err size kind cnt body noItem itemV OneSaid)
set_option maxRecDepth 8000
set_option linter.unusedVariables false
open Shf (Tag Ext Rep M RdN get Fine nameOk act_now ages wo wi Mv)
theorem tidyL_own (own : List S) : ∀ (l : List S) (m : M), (∀ s ∈ l, s ∈ own) → tidyL own l m = (0, m)
  | [], _, _ => rfl
  | s :: l, m, h => by
    unfold tidyL
    rw [if_pos (h s List.mem_cons_self)]
    exact tidyL_own own l m fun t ht => h t (List.mem_cons_of_mem _ ht)
theorem tidyL_one {own : List S} {nm : S} (hnm : nm ∉ own) {m : M} (h0 : m.onE nm = 0) : ∀ l : List S, l.Nodup → nm ∈ l → (∀ s ∈ l, s ≠ nm → s ∈ own) → tidyL own l m = (0, m.delete nm)
  | [], _, h, _ => by cases h
  | s :: l, hd, hm, h => by
    unfold tidyL
    rw [List.nodup_cons] at hd
    by_cases e : s = nm
    · subst e
      rw [if_neg hnm, if_pos h0]
      exact tidyL_own own l _ fun t ht => h t (List.mem_cons_of_mem _ ht) fun e => hd.1 (e ▸ ht)
    · rw [if_pos (h s List.mem_cons_self e)]
      refine tidyL_one hnm h0 l hd.2 ?_ fun t ht => h t (List.mem_cons_of_mem _ ht)
      rcases List.mem_cons.1 hm with e2 | e2
      · exact absurd e2.symm e
      · exact e2
structure Und (m m' : M) (nm l : S) : Prop where
  on : On m'
  good : Shf.Good m'.now
  now : m'.now = wo m.now nm
  safe : m'.safe = m'.now
  moves : m'.moves = []
  room : m'.room = m.room
  gone : m'.gone = 0
  named : m'.named = m.named - l.length
  fl : m'.fl = m.fl
  done : m'.done = m.done + 2
theorem undo_one {own : List S} {m : M} {nm l : S} (h : On m) (G : Shf.Good m.now) (F : m.now = Shf.ages m.safe m.moves) (hnm : nm ∉ own) (hown : ∀ s, s ≠ nm → get m.now s ≠ none → s ∈ own) (hf : fileOf m nm = some l) (e : Nat) :
    (undoM own m e).1 = e ∧ Und m (undoM own m e).2 nm l := by
  obtain ⟨b, hg, hb⟩ := fileOf_some hf
  have hl : m.list = (m.now.map (·.1)).mergeSort (fun x y => decide (x ≤ y)) := by unfold Shf.M.list; rw [h.f]; rfl
  have hmem : ∀ s, s ∈ m.list ↔ get m.now s ≠ none := fun s => by
    rw [hl, List.mem_mergeSort, List.mem_map]
    constructor
    · rintro ⟨p, hp, rfl⟩ e
      exact Shf.get_none.1 e p.2 hp
    · intro hs
      cases hc : get m.now s with
      | none => exact absurd hc hs
      | some c => exact ⟨(s, c), Shf.mem_get hc, rfl⟩
  have hT : tidyL own m.list m = (0, m.delete nm) := tidyL_one hnm (onE_zero h hg) m.list (by rw [hl]; exact (List.mergeSort_perm _ _).nodup_iff.2 G.keys) ((hmem nm).2 (by rw [hg]; simp)) fun s hs hne => hown s hne ((hmem s).1 hs)
  have eD : m.delete nm = ({m with done := m.done + 1, named := m.named - l.length, gone := m.gone + l.length} : M).mv ⟨nm, [], none⟩ := by
    unfold Shf.M.delete
    rw [h.onF, hg, h.act.1]
    show (Shf.M.lose {m with done := m.done + 1} nm).mv _ = _
    unfold Shf.M.lose
    show (match get m.now nm with | none => _ | some b => _ : M).mv _ = _
    rw [hg]
    show (({m with done := m.done + 1, named := m.named - (m.fl b).1.length, gone := m.gone + (m.fl b).1.length} : M)).mv _ = _
    rw [hb]
  have oD : On (m.delete nm) := by rw [eD]; exact ⟨h.f, h.a⟩
  have nD : (m.delete nm).now = wo m.now nm := by rw [eD]; rfl
  have fD : (m.delete nm).now = Shf.ages (m.delete nm).safe (m.delete nm).moves := by
    rw [nD, eD]
    show _ = Shf.ages m.safe (m.moves ++ [_])
    rw [ages_snoc, ← F]
    rfl
  have lD : ¬ (m.delete nm).moves.length = 0 := by rw [eD]; simp [Shf.M.mv]
  obtain ⟨z, o2, a1, a2, a3, a4, a5, a6, a7, a8⟩ := names_on oD fD
  have hM : tidyM own m = (0, (m.delete nm).names) := by
    unfold tidyM tidyEnd
    rw [hT]
    simp only [if_true, lD, if_false, z]
  unfold undoM
  rw [hM]
  refine ⟨rfl, o2, ?_, a1.trans nD, ?_, a3, ?_, a6, ?_, ?_, ?_⟩
  · show Shf.Good (m.delete nm).names.now
    rw [a1, nD]; exact G.wo nm
  · show (m.delete nm).names.safe = (m.delete nm).names.now
    rw [a2, a1]
  · show (m.delete nm).names.room = _
    rw [a4, eD]; rfl
  · show (m.delete nm).names.named = _
    rw [a7, eD]; rfl
  · show (m.delete nm).names.fl = _
    rw [a8, eD]; rfl
  · show (m.delete nm).names.done = _
    rw [a5, eD]; rfl
theorem file_get {m : M} {t l : S} (h : fileOf m t = some l) : get m.now t ≠ none := by
  obtain ⟨b, hb, _⟩ := fileOf_some h
  rw [hb]; simp
theorem CG.same {c : CD} {m m' : M} (h : CG c m) (o : On m') (G : Shf.Good m'.now) (F : m'.now = Shf.ages m'.safe m'.moves) (hm : m'.moves = []) (hget : ∀ s, get m'.now s ≠ none → get m.now s ≠ none) (hr : ∀ t, get m.now t ≠ none → fileOf m' t = fileOf m t ∧ (Synced m t → Synced m' t)) : CG c m' := by
  have hi := hr idxN (file_get h.idx.1)
  refine ⟨o, F, G, hm, ⟨hi.1.trans h.idx.1, hi.2 h.idx.2⟩, fun hb => ?_, h.b0, fun d hd => ?_, fun d hd => ?_, h.nos, h.fi, h.f0, h.up, fun s hs => h.only s (hget s hs), h.nf⟩
  · obtain ⟨k1, k2, k3⟩ := h.ba hb
    have := hr _ (file_get k1)
    exact ⟨this.1.trans k1, this.2 k2, k3⟩
  · obtain ⟨k1, k2⟩ := h.vo d hd
    exact ⟨(hr _ (file_get k1)).1.trans k1, k2⟩
  · obtain ⟨k1, _⟩ := h.vo d (List.dropLast_subset _ hd)
    exact (hr _ (file_get k1)).2 (h.sy d hd)
theorem Und.rest {m m' : M} {nm l : S} (u : Und m m' nm l) {t : S} (ht : t ≠ nm) : get m'.now t = get m.now t ∧ fileOf m' t = fileOf m t ∧ (Synced m t → Synced m' t) := by
  have e : get m'.now t = get m.now t := by rw [u.now, Shf.get_wo, if_neg ht]
  refine ⟨e, by unfold fileOf; rw [e, u.fl], fun hs b hb => ?_⟩
  rw [e] at hb
  rw [u.fl]
  exact hs b hb
theorem CG.undo {c : CD} {m mm m' : M} {nm l : S} (h : CG c m) (hg : get m.now nm = none) (hrest : ∀ t, t ≠ nm → fileOf mm t = fileOf m t ∧ (Synced m t → Synced mm t)) (hget : ∀ t, t ≠ nm → get mm.now t = get m.now t) (u : Und mm m' nm l) : CG c m' := by
  refine h.same u.on u.good (by rw [u.moves, u.safe]; rfl) u.moves (fun s hs => ?_) (fun t ht => ?_)
  · have hne : s ≠ nm := fun e => by
      rw [e, u.now, Shf.get_wo, if_pos rfl] at hs
      exact hs rfl
    rw [(u.rest hne).1, hget s hne] at hs
    exact hs
  · have hne : t ≠ nm := fun e => ht (e ▸ hg)
    obtain ⟨_, k1, k2⟩ := u.rest hne
    obtain ⟨k3, k4⟩ := hrest t hne
    exact ⟨k1.trans k3, fun hs => k2 (k4 hs)⟩
theorem append_fail {m : M} (h : On m) {nm : S} {b : Nat} (hg : get m.now nm = some b) (p : S) (he : m.appendE nm p ≠ 0) : m.appendE nm p = 3 ∧ m.append nm p = {m with done := m.done + 1} := by
  have hn : (m.named + m.gone + p.length : Int) > m.room := by
    refine Classical.byContradiction fun hn => he ?_
    exact appendE_zero h hg p (by omega)
  constructor
  · unfold Shf.M.appendE
    rw [h.onF, hg]
    simp only [hn, if_true]
  · unfold Shf.M.append
    rw [h.onF, hg]
    simp only [hn, if_true]
    exact h.act.1
theorem append_room {m : M} (h : On m) {nm : S} {b : Nat} (hg : get m.now nm = some b) (p : S) (he : m.appendE nm p = 0) : (m.named + m.gone + p.length : Int) ≤ m.room := by
  refine Classical.byContradiction fun hn => ?_
  have hn : (m.named + m.gone + p.length : Int) > m.room := by omega
  unfold Shf.M.appendE at he
  rw [h.onF, hg] at he
  simp [hn] at he
theorem bres_fail {m m1 : M} {nm bs : S} {en : Nat} (h : On m) (G : Shf.Good m.now) (F : m.now = Shf.ages m.safe m.moves) (hn : nameOk nm = true) (hg : get m.now nm = none) (hb : BRes m nm bs en m1) (h0 : en ≠ 0) : en = 3 ∧ ∃ b, m1 = {m.create nm b with done := (m.create nm b).done + 1} := by
  have cz := create_sz h G F nm hn hg
  have eC := (create_on h G F nm hn hg).1
  rcases hb with ⟨h1, _⟩ | ⟨_, ⟨e, _⟩ | ⟨ma, ⟨_, b, rfl⟩, e, rfl⟩ | ⟨ma, ⟨mb, ⟨_, b, rfl⟩, _, rfl⟩, e, _⟩ | ⟨ma, ⟨mc, ⟨mb, ⟨_, b, rfl⟩, _, rfl⟩, _, rfl⟩, e, _⟩⟩
  · exact absurd h1 h0
  · exact absurd (e.trans eC) h0
  · obtain ⟨k1, k2⟩ := append_fail (on_create h nm b) (cz b).2.2.2 bs (e ▸ h0)
    exact ⟨e.trans k1, b, k2⟩
  · exact absurd (e.trans (onE_zero (on_append (on_create h _ _) _ _) (by rw [now_append]; exact (cz b).2.2.2))) h0
  · exact absurd (e.trans (on_sync (on_append (on_create h _ _) _ _) _).act.2) h0
theorem bst_room {m m1 : M} {nm bs : S} (h : On m) (G : Shf.Good m.now) (F : m.now = Shf.ages m.safe m.moves) (hn : nameOk nm = true) (hg : get m.now nm = none) (hb : BSt m nm bs 4 m1) : (m.named + m.gone + bs.length : Int) ≤ m.room := by
  obtain ⟨ma, ⟨mb, ⟨mc, ⟨_, b, rfl⟩, e, _⟩, _, _⟩, _, _⟩ := hb
  obtain ⟨c1, c2, c3, c4⟩ := create_sz h G F nm hn hg b
  have := append_room (on_create h nm b) c4 bs e
  rw [c1, c2, c3] at this
  exact this
theorem CG.own_of {c : CD} {m : M} (h : CG c m) {s : S} (hs : get m.now s ≠ none) : s ∈ c.own := by
  unfold CD.own CD.own0
  rcases h.only s hs with e | ⟨hb, e⟩ | ⟨d, hd, e⟩
  · refine List.mem_append_right _ ?_
    split <;> simp [e]
  · refine List.mem_append_right _ ?_
    rw [if_neg hb, e]
    simp
  · exact List.mem_append_left _ (List.mem_map.2 ⟨d, hd, e.symm⟩)
theorem CG.of_own {c : CD} {m : M} (h : CG c m) {s : S} (hs : s ∈ c.own) : get m.now s ≠ none := by
  unfold CD.own CD.own0 at hs
  rcases List.mem_append.1 hs with hs | hs
  · obtain ⟨d, hd, rfl⟩ := List.mem_map.1 hs
    exact file_get (h.vo d hd).1
  · by_cases hb : c.hB = 0
    · rw [if_pos hb, List.mem_singleton] at hs
      rw [hs]
      exact file_get h.idx.1
    · rw [if_neg hb] at hs
      rcases List.mem_cons.1 hs with e | e
      · rw [e]; exact file_get (h.ba hb).1
      · rw [List.mem_singleton.1 e]; exact file_get h.idx.1
set_option maxHeartbeats 1000000 in
theorem CG.refused {c : CD} {m : M} (h : CG c m) (N : CN c) (N1 : c.hF + c.vols.length < 98) (k : UInt8) (p : S) {e : Nat} {m' : M} {c' : CD} (ha : AdM c m k p e m' c') (he0 : e ≠ 0) :
    e = 3 ∧ c' = c ∧ CG c m' ∧ m'.room = m.room ∧ m'.done ≤ m.done + 9 ∧ ∀ K, Nms m K → Nms m' (K + 2) := by
  rcases ha with ⟨l, d, hl, hlt, he, rfl, hc⟩ | ⟨hno, h2⟩
  · obtain ⟨b, hg, _⟩ := fileOf_some (h.vo d (by rw [hl]; simp)).1
    obtain ⟨k1, k2⟩ := append_fail h.on hg (pack k p) (he ▸ he0)
    refine ⟨he.trans k1, ?_, ?_, ?_, ?_, fun K hk => ?_⟩
    · rw [hc]; unfold atlC; rw [if_neg he0]
    · rw [k2]; exact h.same ⟨h.on.f, h.on.a⟩ h.good h.ages h.mv (fun s hs => hs) (fun t _ => ⟨rfl, fun hs => hs⟩)
    · rw [k2]
    · rw [k2]; show m.done + 1 ≤ _; omega
    · rw [k2]; exact nms_mono (hk : Nms m K) (by omega)
  · obtain ⟨s1, s2, s3, s4, s5⟩ := h.sync
    rcases h2 with ⟨h0, _⟩ | ⟨_, en, mb, cb, hb, h3⟩
    · exact absurd s1 h0
    · have sk : ∀ K, Nms m K → Nms (syM c m).2 K := fun K hk => by
        unfold syM
        split
        · exact hk
        · exact nms_sync hk _
      have ss := (syM_small c m).1
      have hvl : (vName c.nextNo).length ≤ 1000 := vName_le _ (by rw [nextNo_at h]; omega)
      have hg : get (syM c m).2.now (vName c.nextNo) = none := s2.nogot (by omega) (by have := N.hB; omega) c.nextNo (by rw [nextNo_at h]; omega) (fun i hi e => by rw [nextNo_at h] at e; omega)
      have hvn := vn_ok c.nextNo (by rw [nextNo_at h]; omega)
      have hnm : vName c.nextNo ∉ c.own := fun hx => s2.of_own hx hg
      obtain ⟨en1, m1, ⟨hres, Gm1⟩, hcase⟩ := hb
      rcases h3 with ⟨hz, rfl, rfl, rfl⟩ | ⟨rfl, _, h4⟩
      · rcases hcase with ⟨_, h0, _⟩ | ⟨h0, h1, h2, _⟩
        · exact absurd h0 hz
        · obtain ⟨rfl, b, rfl⟩ := bres_fail s2.on s2.good s2.ages hvn hg hres h0
          obtain ⟨hnow, hNw⟩ := (create_on s2.on s2.good s2.ages (vName c'.nextNo) hvn hg).2 b
          have nw := hNw Gm1
          have hget : ∀ t, t ≠ vName c'.nextNo → get ((syM c' m).2.create (vName c'.nextNo) b).now t = get (syM c' m).2.now t := fun t ht => by
            rw [hnow, Shf.get_app]
            cases get (syM c' m).2.now t with
            | some x => rfl
            | none => simp [Shf.get, Ne.symm ht]
          obtain ⟨u1, u⟩ := undo_one (own := c'.own) (m := {(syM c' m).2.create (vName c'.nextNo) b with done := ((syM c' m).2.create (vName c'.nextNo) b).done + 1}) (nm := vName c'.nextNo) (l := []) ⟨nw.on.f, nw.on.a⟩ nw.good nw.ages hnm (fun s hs hx => s2.own_of (by rw [← hget s hs]; exact hx)) nw.is 3
          rw [← h1] at u1
          rw [← h2] at u
          refine ⟨u1, rfl, s2.undo (mm := {(syM c' m).2.create (vName c'.nextNo) b with done := ((syM c' m).2.create (vName c'.nextNo) b).done + 1}) hg nw.rest hget u, u.room.trans (nw.room.trans s4), ?_, fun K hk => ?_⟩
          · have a1 := (sm_create (syM c' m).2 (vName c'.nextNo) b).1
            have a2 : _ = ((syM c' m).2.create (vName c'.nextNo) b).done + 1 + 2 := u.done
            omega
          · show NmsL _ _
            rw [u.now]
            exact (nms_mono (nms_create (sk K hk) _ hvl b) (by omega)).wo _
      · rcases hcase with ⟨hz, _, rfl, hcb⟩ | ⟨h0, h1, _⟩
        · rcases hres with ⟨_, hb4⟩ | ⟨h0, _⟩
          · have hrr := bst_room s2.on s2.good s2.ages hvn hg hb4
            obtain ⟨o1, ⟨b, gb⟩, sz1, rm1⟩ := bst4 s2.on s2.good s2.ages hvn hg hrr hb4
            obtain ⟨_, nw⟩ := begin_ok s2.on s2.good s2.ages hvn hg hrr (Or.inl ⟨hz, hb4⟩ : BRes _ _ _ en1 _) Gm1
            rcases h4 with ⟨_, h5, _⟩ | ⟨h5, h6, h7, rfl⟩
            · exact absurd h5 he0
            · obtain ⟨k1, k2⟩ := append_fail nw.on gb (pack k p) h5
              rw [k1, k2] at h6 h7
              obtain ⟨u1, u⟩ := undo_one (own := c'.own) (m := {mb with done := mb.done + 1}) (nm := vName c'.nextNo) ⟨nw.on.f, nw.on.a⟩ nw.good (by show mb.now = Shf.ages mb.safe mb.moves; rw [nw.moves, nw.safe]; rfl) hnm (fun s hs hx => s2.own_of (by rw [← nw.get s hs]; exact hx)) nw.is 3
              rw [← h6] at u1
              rw [← h7] at u
              refine ⟨u1, rfl, s2.undo (mm := {mb with done := mb.done + 1}) hg nw.rest nw.get u, u.room.trans (nw.room.trans s4), ?_, fun K hk => ?_⟩
              · have a1 := BSt_small hb4
                have a2 : _ = mb.done + 1 + 2 := u.done
                omega
              · show NmsL _ _
                rw [u.now]
                exact ((bst_nms hvl (sk K hk) hb4).more).wo _
          · exact absurd hz h0
        · unfold undoM at h1
          split at h1
          · exact absurd h1.symm h0
          · rename_i h2; exact absurd h1.symm h2
end Go.Proofs.YtdbhgkbmbbjpdaaGreatDoor.Chr
namespace Go.Proofs.YtdbhgkbmbbjpdaaGreatDoor.Chr
open Go.ChangeShapes Go.WideShapes Go.ChangeAt Go.RowKit
open Shf (S str)
open Coin (Rd Row Own sz coin got Pur takeV endV CoinSaid)
open Frm (pack err size kind cnt body noItem itemV OneSaid)
set_option maxRecDepth 8000
set_option linter.unusedVariables false
open Shf (Tag Ext Rep M RdN get Fine nameOk act_now ages wo wi Mv)
variable {lo : Nat}
theorem recJ_all (d : VolD) (h : 0 < d.first) : ∀ j, recJ 0 d j = d.its.take j
  | 0 => by simp [recJ]
  | j + 1 => by
    unfold recJ
    rw [recJ_all d h j, List.take_add_one, show decide (0 < d.first + j) = true from decide_eq_true (by omega)]
    cases d.its[j]? <;> rfl
theorem recK_all (vols : List VolD) (h : ∀ d ∈ vols, 0 < d.first) : ∀ k, recK 0 vols k = (vols.take k).flatMap (·.its)
  | 0 => by simp [recK]
  | k + 1 => by
    unfold recK
    rw [recK_all vols h k, List.take_add_one, List.flatMap_append]
    cases e : vols[k]? with
    | none => rfl
    | some d =>
      simp only [Option.toList_some, List.flatMap_cons, List.flatMap_nil, List.append_nil]
      rw [recJ_all d (h d (List.mem_of_getElem? e)), List.take_length]
theorem recs_all {c : CD} (hU : c.hU = 0) (h : ∀ d ∈ c.vols, 0 < d.first) : c.recs = c.vols.flatMap (·.its) := by
  unfold CD.recs
  rw [hU, recK_all _ h, List.take_length]
structure Mr (c : CD) (k : UInt8) (p : S) (c' : CD) : Prop where
  its : ∃ a b, c'.vols.flatMap (·.its) = c.vols.flatMap (·.its) ++ [⟨k, p, a, b⟩]
  same : c'.hF = c.hF ∧ c'.hB = c.hB ∧ c'.hU = c.hU ∧ c'.base = c.base ∧ c'.full = c.full ∧ c'.most = c.most
  len : c'.vols.length ≤ c.vols.length + 1
  next : c'.next = c.next + 1
  sz : ∀ B, 50 ≤ B → (∀ d ∈ c.vols, d.size ≤ B) → ∀ d ∈ c'.vols, d.size ≤ B + (pack k p).length
theorem More.mr {c c' : CD} {k : UInt8} {p : S} (h : More c k p c') : Mr c k p c' := by
  rcases h with ⟨l, d, hl, _, rfl⟩ | ⟨_, rfl⟩
  · unfold atlC
    rw [if_pos rfl]
    refine ⟨⟨d.size, d.size + (pack k p).length, ?_⟩, ⟨rfl, rfl, rfl, rfl, rfl, rfl⟩, ?_, ?_, fun B _ hB x hx => ?_⟩
    · rw [hl]
      simp only [List.flatMap_append, List.flatMap_cons, List.flatMap_nil, List.append_nil, List.append_assoc]
    · rw [hl]; simp
    · unfold CD.next
      rw [hl]
      simp only [List.getLast?_append, List.getLast?_singleton, Option.some_or, VolD.next, List.length_append, List.length_cons, List.length_nil]
      omega
    · have hx : x ∈ l ++ [_] := hx
      rcases List.mem_append.1 hx with e | e
      · have := hB x (by rw [hl]; exact List.mem_append_left _ e)
        omega
      · rw [List.mem_singleton.1 e]
        have := hB d (by rw [hl]; simp)
        show d.size + _ ≤ _
        omega
  · unfold atlC
    rw [if_pos rfl]
    refine ⟨⟨(newV c).size, (newV c).size + (pack k p).length, ?_⟩, ⟨rfl, rfl, rfl, rfl, rfl, rfl⟩, ?_, ?_, fun B h50 hB x hx => ?_⟩
    · simp only [List.flatMap_append, List.flatMap_cons, List.flatMap_nil, List.append_nil]
      rfl
    · simp
    · show (match (c.vols ++ [_]).getLast? with | none => _ | some d => d.next) = _
      simp only [List.getLast?_append, List.getLast?_singleton, Option.some_or, VolD.next, List.length_append, List.length_cons, List.length_nil]
      rfl
    · have hx : x ∈ c.vols ++ [_] := hx
      rcases List.mem_append.1 hx with e | e
      · have := hB x e
        omega
      · rw [List.mem_singleton.1 e]
        have := titleB_len2 c.nextNo c.next
        show (titleB c.nextNo c.next).length + _ ≤ _
        omega
structure FI (c : CD) (l : S) : Prop where
  hd : c.hF = 1 ∧ c.hB = 0 ∧ c.hU = 0 ∧ c.full = false ∧ c.base = []
  its : (c.vols.flatMap (·.its)).map (fun x => (x.k.toNat, x.p)) = l.map fun b => (107 + b.toNat % 3, byL b.toNat)
  nv : c.vols.length ≤ l.length
  next : c.next = l.length + 1
  sz : ∀ d ∈ c.vols, d.size ≤ 50 + 100 * l.length
  fs : ∀ d ∈ c.vols, d.first ≤ l.length + 1
  len : l.length ≤ 80
theorem FI.more {c c' : CD} {l : S} {k : UInt8} {p : S} (h : FI c l) (hm : More c k p c') (b : UInt8) (hk : k.toNat = 107 + b.toNat % 3) (hp : p = byL b.toNat) (hl : l.length < 80) : FI c' (l ++ [b]) := by
  obtain ⟨⟨a, e, hi⟩, ⟨s1, s2, s3, s4, s5, s6⟩, hlen, hnx, hsz⟩ := hm.mr
  have hll : (l ++ [b]).length = l.length + 1 := by simp
  refine ⟨⟨s1.trans h.hd.1, s2.trans h.hd.2.1, s3.trans h.hd.2.2.1, s5.trans h.hd.2.2.2.1, s4.trans h.hd.2.2.2.2⟩, ?_, ?_, ?_, fun d hd => ?_, fun d hd => ?_, by omega⟩
  · rw [hi, List.map_append, List.map_append, h.its, List.map_cons, List.map_nil, List.map_cons, List.map_nil, hk, hp]
  · have := h.nv; omega
  · rw [hnx, h.next, hll]
  · have h1 := hsz (50 + 100 * l.length) (by omega) h.sz d hd
    have h2 := byL_len b.toNat
    have h3 := Coin.sz_le p.length
    rw [Frm.length_pack] at h1
    rw [← hp] at h2
    omega
  · rw [hll]
    rcases hm with ⟨l0, d0, hl0, _, rfl⟩ | ⟨_, rfl⟩
    · unfold atlC at hd
      rw [if_pos rfl] at hd
      have hd : d ∈ l0 ++ [_] := hd
      rcases List.mem_append.1 hd with x | x
      · have := h.fs d (by rw [hl0]; exact List.mem_append_left _ x)
        omega
      · rw [List.mem_singleton.1 x]
        have := h.fs d0 (by rw [hl0]; simp)
        show d0.first ≤ _
        omega
    · unfold atlC at hd
      rw [if_pos rfl] at hd
      have hd : d ∈ c.vols ++ [_] := hd
      rcases List.mem_append.1 hd with x | x
      · have := h.fs d x
        omega
      · rw [List.mem_singleton.1 x]
        show c.next ≤ _
        rw [h.next]; omega
theorem its_le {vs : List VolD} {d : VolD} (h : d ∈ vs) : d.its.length ≤ (vs.flatMap (·.its)).length ∧ ∀ x ∈ d.its, x ∈ vs.flatMap (·.its) := by
  obtain ⟨a, b, rfl⟩ := List.append_of_mem h
  refine ⟨?_, fun x hx => List.mem_flatMap.2 ⟨d, h, hx⟩⟩
  simp only [List.flatMap_append, List.flatMap_cons, List.length_append]
  omega
theorem FI.its_len {c : CD} {l : S} (h : FI c l) : (c.vols.flatMap (·.its)).length = l.length := by
  have := congrArg List.length h.its
  simpa using this
theorem FI.its_small {c : CD} {l : S} (h : FI c l) {d : VolD} (hd : d ∈ c.vols) : d.its.length ≤ 80 ∧ ∀ x ∈ d.its, x.p.length ≤ 16 := by
  obtain ⟨h1, h2⟩ := its_le hd
  have h3 := h.its_len
  have h4 := h.len
  refine ⟨by omega, fun x hx => ?_⟩
  have h5 : (x.k.toNat, x.p) ∈ (c.vols.flatMap (·.its)).map (fun x => (x.k.toNat, x.p)) := List.mem_map.2 ⟨x, h2 x hx, rfl⟩
  rw [h.its] at h5
  obtain ⟨b, _, hb⟩ := List.mem_map.1 h5
  injection hb with _ hb
  rw [← hb]
  exact byL_len _
theorem FI.has {c : CD} {m : M} {l : S} (h : FI c l) (g : CG c m) : Has c l := by
  refine ⟨h.hd.2.2.1, h.hd.2.1, h.next, ?_, by have := h.len; omega⟩
  rw [recs_all h.hd.2.2.1 fun d hd => (g.vo d hd).2.2]
  exact h.its
theorem FI.small {c : CD} {m : M} {l : S} (h : FI c l) (g : CG c m) : c.Small := by
  have hl := h.len
  have hn := h.nv
  refine ⟨by rw [h.hd.1]; decide, by rw [h.hd.2.2.1]; decide, by omega, fun d hd => ⟨?_, ?_, ?_, ?_⟩⟩
  · obtain ⟨i, hi, rfl⟩ := List.getElem_of_mem hd
    rw [g.nos i _ (List.getElem?_eq_getElem hi), h.hd.1]
    omega
  · have := h.fs d hd; omega
  · have := (h.its_small hd).1; omega
  · have := h.sz d hd; omega
end Go.Proofs.YtdbhgkbmbbjpdaaGreatDoor.Chr
