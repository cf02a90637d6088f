/- Fold, where nothing goes wrong. A chronicle with the records of a list of numbers, the first ones folded. Pure. Numbers below a hundred as texts (the reference's), and Base. -/
import Derived.Test.YtdbhgkbmbbjpdaaGreatDoorPb
import Derived.Test.YtdbhgkbmbbjpdaaGreatDoorOg
import Derived.Test.YtdbhgkbmbbjpdaaGreatDoorOv
namespace Go.Proofs.YtdbhgkbmbbjpdaaGreatDoor.Chr
variable {lo : Nat}
open Go.ChangeShapes Go.WideShapes Go.ChangeAt Go.RowKit
open Shf (S str)
open Coin (Rd Row Own sz coin got Pur takeV endV CoinSaid)
open Frm (pack err size kind cnt body noItem itemV OneSaid)
set_option maxRecDepth 8000
set_option linter.unusedVariables false
open Shf (Tag Ext Rep M RdN Fine get nameOk)
open Coin (CoinOwn)
theorem write_nw (w : World) (T : Nat → Tag) (p q : Nat) (m : M) (c : CD) (R : Rep w T q m) (C : CAt lo w T p q c) (hs : c.Small) (hB : c.hB < 100) (hv : ∀ d ∈ c.vols, d.no < 100) (hd : m.done < 700000) (hms : Nms m 9000) (ho : On m) (F : m.now = Shf.ages m.safe m.moves) (hg : get m.now besN = none)
    (nm : S) (hnm : nm.length ≤ 1000) (ok : nameOk nm = true) (hne : nm ≠ []) (hbi : besN ≠ nm) (A : Option Addr) (cp n : Nat) (bs : S) (hn : n = bs.length) (hbs : RdN w T A bs) (hA : A = none → cp = 0) (hbl : bs.length ≤ 1000000) (hr : (m.named + m.gone + bs.length : Int) ≤ m.room) :
    Calls Tryz.prog 44 #[.pointer (some ⟨p, 0, none⟩), .string (str nm), .slice A n cp] w fun e w' => ∃ m' T', e = .returned (.int .i64 0) ∧ Nw9 m m' nm bs ∧ get m'.now besN = none ∧ Rep w' T' q m' ∧ CAt lo w' T' p q c ∧ Ext w T w' T' ∧ m'.done ≤ m.done + 5 ∧ ∀ K, Nms m K → Nms m' (K + 3) := by
  refine (write_any w T p q m c R C hs hB hv hd hms nm hnm A cp n bs hn hbs hA hbl (by omega)).mono ?_
  rintro e w' ⟨en, m', T', rfl, ⟨en1, m1, ⟨hw, G1⟩, hh⟩, R', X'⟩
  obtain ⟨e0, nw, nb⟩ := writeN_ok ho (rep_good R) F ok hne hbi hg hr hw
  rcases hh with ⟨_, rfl, rfl⟩ | ⟨h1, _⟩
  · have ws := fun K (hk : Nms m K) => wres_small hw hnm hk
    exact ⟨m', T', rfl, nw, nb, R', C.keep (kp_ext X'), X', (ws _ hms).1, fun K hk => (ws K hk).2.2⟩
  · exact absurd e0 h1
theorem three3 {w : World} {g : Nat} {a b c : Value} (h : w.heap[g]? = some (.cells #[a, b, c] 45)) : w.cell? ⟨g, 0, none⟩ = some a ∧ w.cell? ⟨g, 1, none⟩ = some b ∧ w.cell? ⟨g, 2, none⟩ = some c :=
  ⟨cell_of_row w g 0 _ 45 (0, 0) h, cell_of_row w g 1 _ 45 (0, 0) h, cell_of_row w g 2 _ 45 (0, 0) h⟩
theorem put3 {w : World} {g : Nat} {a b c : Value} (h : w.heap[g]? = some (.cells #[a, b, c] 45)) (x y z : Value) : (((w.setCell ⟨g, 0, none⟩ x).setCell ⟨g, 1, none⟩ y).setCell ⟨g, 2, none⟩ z).heap[g]? = some (.cells #[x, y, z] 45) := by
  have h0 := heap_setCell_same w g 0 _ 45 x h
  have h1 := heap_setCell_same _ g 1 _ 45 y h0
  have h2 := heap_setCell_same _ g 2 _ 45 z h1
  rw [h2]
  rfl
theorem set3_grown (w : World) (g : Nat) (x y z : Value) : w.grownBy (((w.setCell ⟨g, 0, none⟩ x).setCell ⟨g, 1, none⟩ y).setCell ⟨g, 2, none⟩ z) (some g) :=
  ((Shf.grown_set w g 0 x).trans (Shf.grown_set _ g 1 y)).trans (Shf.grown_set _ g 2 z)
theorem CAtV.fold {w : World} {T : Nat → Tag} {p q : Nat} {c : CD} {bA : Option Addr} {bc : Nat} {vv : Value} {gv : Option Nat} (h : CAtV lo w T p q c bA bc vv gv) (f b u : Nat) (bs : S) (A : Option Addr) (cp : Nat) (hP : PAt w T A cp bs) :
    CAtV lo (((((w.setCell ⟨p, 2, none⟩ (.int .u64 (f : Int))).setCell ⟨p, 3, none⟩ (.int .u64 (b : Int))).setCell ⟨p, 4, none⟩ (.int .u64 (u : Int))).setCell ⟨p, 5, none⟩ (.slice A bs.length cp)).setCell ⟨p, 7, none⟩ (.bool false)) T p q {c with hF := f, hB := b, hU := u, base := bs, full := false} A cp vv gv := by
  have s1 := h.set 2 (.int .u64 (f : Int)) {c with hF := f} bA bc vv gv rfl h.ba h.vs
  have s2 := s1.set 3 (.int .u64 (b : Int)) {c with hF := f, hB := b} bA bc vv gv rfl s1.ba s1.vs
  have s3 := s2.set 4 (.int .u64 (u : Int)) {c with hF := f, hB := b, hU := u} bA bc vv gv rfl s2.ba s2.vs
  have hP3 := ((hP.grown (Shf.grown_set w p 2 (.int .u64 (f : Int))) (notTy h.row (by decide))).grown (Shf.grown_set _ p 3 (.int .u64 (b : Int))) (notTy s1.row (by decide))).grown (Shf.grown_set _ p 4 (.int .u64 (u : Int))) (notTy s2.row (by decide))
  have s4 := s3.set 5 (.slice A bs.length cp) {c with hF := f, hB := b, hU := u, base := bs} A cp vv gv rfl hP3 s3.vs
  exact s4.set 7 (.bool false) {c with hF := f, hB := b, hU := u, base := bs, full := false} A cp vv gv rfl s4.ba s4.vs
theorem kq_box {w w' : World} {T : Nat → Tag} {p : Nat} {cur : Array Value} (G : w.grownBy w' (some p)) (h : w.heap[p]? = some (.cells cur 82 (0, 0))) (hlo : lo ≤ p) : Kq lo w T w' T :=
  ⟨G.size, fun b _ h => h, fun b hb hn h82 _ _ => G.block b hb (fun e => by injection e with e; rw [e] at h82; exact h82 _ h), G.os, G.tape, G.output, fun b hb hn hl => G.block b hb (fun e => by injection e with e; omega)⟩
theorem CAtV.dropped {w w' : World} {T : Nat → Tag} {p q g : Nat} {cur : Array Value} {c : CD} {bA : Option Addr} {bc : Nat} {vv v' : Value} {gv : Option Nat} {E : Nat} (h : CAtV lo w T p q c bA bc vv gv) (G : w.grownBy w' (some g)) (hg : w.heap[g]? = some (.cells cur 60 (0, 0))) (V : VsAt lo w' T v' (c.vols.drop E) gv) :
    w'.heap[p]? = w.heap[p]? ∧ CAtV lo (w'.setCell ⟨p, 6, none⟩ v') T p q {c with vols := c.vols.drop E} bA bc v' gv := by
  have hpg : p ≠ g := fun e => by have := h.row; rw [e, hg] at this; injection this with this; injection this with a b; exact absurd b (by decide)
  have hp := G.block p (Array.getElem?_eq_some_iff.1 h.row).1 (fun e => hpg (by injection e))
  have hr : w'.heap[p]? = some (.cells (cC q c bA bc vv) 82) := hp.trans h.row
  have G2 := Shf.grown_set w' p 6 v'
  refine ⟨hp, ⟨?_, h.tp, (h.ba.grown G (notTy hg (by decide))).grown G2 (notTy hr (by decide)), V.grown G2 (notTy hr (by decide)) (notTy hr (by decide)) (notTy hr (by decide)), h.lp⟩⟩
  rw [heap_setCell_same w' p 6 _ 82 _ hr]
  rfl
theorem rep_box {w w' : World} {T : Nat → Tag} {p q : Nat} {m : M} (R : Rep w T q m) (G : w.grownBy w' (some p)) (hT : T p = .none) : Rep w' T q m :=
  R.far (P := fun b => b = p) ⟨G.os, G.tape, G.output, G.size, fun b hlt hne => G.block b hlt (fun e => hne (by injection e))⟩ (fun b hT9 hP => hT9 (by rw [hP]; exact hT))
theorem aat_rd {w : World} {T : Nat → Tag} {A : Option Addr} {c : Nat} {l : S} (h : AAt w T A c l) : Coin.Rd w w.heap.size A l := fun h0 => by
  obtain ⟨ad, e, hc⟩ := h.2.1.1 h0
  exact ⟨ad, e, (h.2.1.2 h0 ad e).2, hc⟩
theorem CG.nobes {c : CD} {m : M} (h : CG c m) (N : CN c) : get m.now besN = none := by
  cases hg : get m.now besN with
  | none => rfl
  | some b =>
    rcases h.only besN (by rw [hg]; simp) with e | ⟨_, e⟩ | ⟨d, hd, e⟩
    · exact absurd e (by decide)
    · exact absurd e.symm (bn_ne c.hB (by have := N.hB; omega)).2.1
    · exact absurd e.symm (vn_idx d.no (by have := h.no_lt N hd; omega)).2
theorem vn_len (i : Nat) (hi : i < 100) : (vName i).length ≤ 1000 := by
  have : ∀ i : Fin 100, (vName i.1).length ≤ 1000 := by decide +kernel
  exact this ⟨i, hi⟩
theorem CG.nms {c : CD} {m : M} (h : CG c m) (N : CN c) : Nms m (c.vols.length + 2) := by
  have hsub : ∀ s ∈ m.now.map (·.1), s ∈ c.vols.map (fun d => vName d.no) ++ [bName c.hB, idxN] := fun s hs => by
    obtain ⟨x, hx, rfl⟩ := List.mem_map.1 hs
    rcases h.only x.1 (fun e => Shf.get_none.1 e x.2 hx) with e | ⟨_, e⟩ | ⟨d, hd, e⟩
    · rw [e]; simp
    · rw [e]; simp
    · rw [e]; exact List.mem_append_left _ (List.mem_map.2 ⟨d, hd, rfl⟩)
  refine ⟨?_, fun x hx => ?_⟩
  · have := h.good.keys.length_le_of_subset hsub
    simpa using this
  · rcases h.only x.1 (fun e => Shf.get_none.1 e x.2 hx) with e | ⟨_, e⟩ | ⟨d, hd, e⟩
    · rw [e]; decide
    · rw [e]; exact (bn_ne c.hB (by have := N.hB; omega)).2.2.2.2
    · rw [e]; exact vn_len d.no (by have := h.no_lt N hd; omega)
theorem kq_vols {w w' : World} {T : Nat → Tag} {g : Nat} {cur : Array Value} (G : w.grownBy w' (some g)) (h : w.heap[g]? = some (.cells cur 60 (0, 0))) (hlo : lo ≤ g) : Kq lo w T w' T :=
  ⟨G.size, fun b _ h => h, fun b hb hn _ h60 _ => G.block b hb (fun e => by injection e with e; rw [e] at h60; exact h60 _ h), G.os, G.tape, G.output, fun b hb hn hl => G.block b hb (fun e => by injection e with e; omega)⟩
theorem fold_small {c : CD} (hs : c.Small) (u : Nat) (hu : u < 1000000000) (p : S) (hF : c.hF + endL c.vols u < 1000000000) : (foldC c u p).Small :=
  ⟨hF, hu, by show (c.vols.drop _).length ≤ _; rw [List.length_drop]; have := hs.n; omega, fun d hd => hs.v d (List.mem_of_mem_drop hd)⟩
theorem head_le (a b c : Nat) : (headB a b c).length ≤ 60 := by
  have := coins_len [a, b, c]
  unfold headB
  rw [Frm.length_pack]
  simp only [List.length_cons, List.length_nil] at this
  have := Coin.sz_le (coins [a, b, c]).length
  omega
end Go.Proofs.YtdbhgkbmbbjpdaaGreatDoor.Chr
namespace Go.Proofs.YtdbhgkbmbbjpdaaGreatDoor.Chr
open Go.ChangeShapes Go.WideShapes Go.ChangeAt Go.RowKit
open Shf (S str)
open Coin (Rd Row Own sz coin got Pur takeV endV CoinSaid)
open Frm (pack err size kind cnt body noItem itemV OneSaid)
set_option maxRecDepth 8000
set_option linter.unusedVariables false
open Shf (Tag Ext Rep M RdN get Fine)
def rc (b : UInt8) : Nat × S := (107 + b.toNat % 3, byL b.toNat)
def itR (x : ItD) : Nat × S := (x.k.toNat, x.p)
def baseS (u : Nat) : S := [98, 97, 115, 101] ++ dec u
structure PI (c : CD) (l : S) (u : Nat) : Prop where
  hU : c.hU = u
  b0 : c.hB = 0 ↔ u = 0
  bs : u ≠ 0 → c.base = baseS u
  its : ∀ d ∈ c.vols, d.its.map itR = ((l.drop (d.first - 1)).take d.its.length).map rc
  next : c.next = l.length + 1
  le : u ≤ l.length
  no : c.hF + c.vols.length ≤ l.length + 1
  sz : ∀ d ∈ c.vols, d.size ≤ 50 + 100 * l.length
  fs : ∀ d ∈ c.vols, d.next ≤ l.length + 1
  len : l.length ≤ 60
theorem PI.most {c : CD} {l : S} {u : Nat} (h : PI c l u) (mo : Nat) : PI {c with most := mo} l u := ⟨h.hU, h.b0, h.bs, h.its, h.next, h.le, h.no, h.sz, h.fs, h.len⟩
theorem PI.fold {c : CD} {l : S} {u n : Nat} (h : PI c l u) (h1 : u < n) (h2 : n ≤ l.length) : PI (foldC c n (baseS n)) l n := by
  refine ⟨rfl, ⟨fun e => (by cases e), fun e => by omega⟩, fun _ => rfl, fun d hd => h.its d (List.mem_of_mem_drop hd), ?_, h2, ?_, fun d hd => h.sz d (List.mem_of_mem_drop hd), fun d hd => h.fs d (List.mem_of_mem_drop hd), h.len⟩
  · have hne : c.vols ≠ [] := fun e => by
      have hn := h.next
      unfold CD.next at hn
      rw [e] at hn
      have : c.hU + 1 = l.length + 1 := hn
      have := h.hU
      omega
    rw [fold_next c n _ hne, h.next]
  · show c.hF + endL c.vols n + (c.vols.drop (endL c.vols n)).length ≤ _
    have hle : endL c.vols n ≤ c.vols.length := by
      by_cases e : c.vols = []
      · rw [e]; exact Nat.le_refl _
      · exact Nat.le_of_lt (endL_lt _ _ e)
    rw [List.length_drop]
    have := h.no
    omega
theorem take_more (l : S) (b : UInt8) (f n : Nat) (h : f + n ≤ l.length) : ((l ++ [b]).drop f).take n = (l.drop f).take n := by
  rw [List.drop_append_of_le_length (by omega), List.take_append_of_le_length (by rw [List.length_drop]; omega)]
theorem take_last (l : S) (b : UInt8) (f n : Nat) (h : f + n = l.length) : ((l ++ [b]).drop f).take (n + 1) = (l.drop f).take n ++ [b] := by
  rw [List.drop_append_of_le_length (by omega), List.take_append, List.take_of_length_le (by rw [List.length_drop]; omega), List.length_drop, show n + 1 - (l.length - f) = 1 by omega, List.take_of_length_le (l := l.drop f) (by rw [List.length_drop]; omega)]
  rfl
theorem PI.more {c c' : CD} {m : M} {l : S} {u : Nat} {k : UInt8} {p : S} (h : PI c l u) (g : CG c m) (hm : More c k p c') (b : UInt8) (hk : k.toNat = 107 + b.toNat % 3) (hp : p = byL b.toNat) (hl : l.length < 60) : PI c' (l ++ [b]) u := by
  obtain ⟨_, ⟨s1, s2, s3, s4, s5, s6⟩, hlen, hnx, hsz⟩ := hm.mr
  have hll : (l ++ [b]).length = l.length + 1 := by simp
  have hx : ∀ a e, itR (⟨k, p, a, e⟩ : ItD) = rc b := fun a e => by unfold itR rc; rw [← hk, ← hp]
  have hold : ∀ d ∈ c.vols, d.its.map itR = (((l ++ [b]).drop (d.first - 1)).take d.its.length).map rc := fun d hd => by
    have hf := (g.vo d hd).2.2
    have hn := h.fs d hd
    unfold VolD.next at hn
    rw [h.its d hd, take_more l b _ _ (by omega)]
  have hlast : ∀ d l0, c.vols = l0 ++ [d] → d.next = l.length + 1 := fun d l0 e => by
    have := h.next
    unfold CD.next at this
    rw [e, List.getLast?_append, List.getLast?_singleton] at this
    exact this
  have hits : ∀ d ∈ c'.vols, d.its.map itR = (((l ++ [b]).drop (d.first - 1)).take d.its.length).map rc ∧ d.next ≤ l.length + 2 := by
    rcases hm with ⟨l0, d0, e0, _, rfl⟩ | ⟨_, rfl⟩
    · unfold atlC
      rw [if_pos rfl]
      intro d hd
      have hd : d ∈ l0 ++ [_] := hd
      rcases List.mem_append.1 hd with hd | hd
      · have hd2 : d ∈ c.vols := by rw [e0]; exact List.mem_append_left _ hd
        exact ⟨hold d hd2, by have := h.fs d hd2; omega⟩
      · rw [List.mem_singleton.1 hd]
        have hd0 : d0 ∈ c.vols := by rw [e0]; simp
        have hn := hlast d0 l0 e0
        have hf := (g.vo d0 hd0).2.2
        unfold VolD.next at hn
        have hi := h.its d0 hd0
        refine ⟨?_, by show d0.first + (d0.its ++ [_]).length ≤ _; rw [List.length_append]; simp only [List.length_cons, List.length_nil]; omega⟩
        show (d0.its ++ [_]).map itR = (((l ++ [b]).drop (d0.first - 1)).take (d0.its ++ [_]).length).map rc
        rw [List.map_append, List.length_append, List.length_cons, List.length_nil, take_last l b _ _ (by omega), List.map_append, hi]
        simp [hx]
    · unfold atlC
      rw [if_pos rfl]
      intro d hd
      have hd : d ∈ c.vols ++ [_] := hd
      rcases List.mem_append.1 hd with hd | hd
      · exact ⟨hold d hd, by have := h.fs d hd; omega⟩
      · rw [List.mem_singleton.1 hd]
        have hn := h.next
        refine ⟨?_, by show c.next + 1 ≤ _; omega⟩
        show [itR _] = (((l ++ [b]).drop (c.next - 1)).take 1).map rc
        rw [hn, Nat.add_sub_cancel, List.drop_left]
        simp [hx]
  refine ⟨s3.trans h.hU, by rw [s2]; exact h.b0, fun e => by rw [s4]; exact h.bs e, fun d hd => (hits d hd).1, by rw [hnx, h.next, hll], by have := h.le; omega, by rw [s1, hll]; have := h.no; omega, fun d hd => ?_, fun d hd => by rw [hll]; exact (hits d hd).2, by omega⟩
  have h1 := hsz (50 + 100 * l.length) (by omega) h.sz d hd
  have h2 := byL_len b.toNat
  rw [Frm.length_pack] at h1
  have h3 := Coin.sz_le p.length
  rw [hll]
  rw [hp] at h1 h3
  omega
theorem recJ_pi {c : CD} {l : S} {u : Nat} (h : PI c l u) {d : VolD} (hd : d ∈ c.vols) (hf : 0 < d.first) : ∀ j, j ≤ d.its.length → (recJ u d j).map itR = (((l.take (d.first - 1 + j)).drop (max u (d.first - 1))).map rc)
  | 0, _ => by
    unfold recJ
    rw [List.drop_of_length_le (by rw [List.length_take]; omega)]
    rfl
  | j + 1, hj => by
    have ih := recJ_pi h hd hf j (by omega)
    have hn := h.fs d hd
    unfold VolD.next at hn
    have hx : d.its[j]? = some d.its[j] := List.getElem?_eq_getElem (by omega)
    have hit : itR d.its[j] = rc (l[d.first - 1 + j]'(by omega)) := by
      have e := congrArg (fun z => z[j]?) (h.its d hd)
      simp only [List.getElem?_map, hx, Option.map_some] at e
      rw [List.getElem?_take_of_lt (by omega), List.getElem?_drop, List.getElem?_eq_getElem (show d.first - 1 + j < l.length by omega)] at e
      simpa using e
    have htk : l.take (d.first - 1 + (j + 1)) = l.take (d.first - 1 + j) ++ [l[d.first - 1 + j]'(by omega)] := by
      rw [← Nat.add_assoc, List.take_succ_eq_append_getElem (by omega)]
    unfold recJ
    rw [hx, htk]
    show ((recJ u d j) ++ (match decide (u < d.first + j) with | true => [d.its[j]] | false => [])).map itR = _
    by_cases hu : u < d.first + j
    · rw [decide_eq_true hu, List.map_append, ih, List.drop_append_of_le_length (by rw [List.length_take]; omega), List.map_append]
      simp [hit]
    · rw [decide_eq_false hu, List.append_nil, ih, List.drop_of_length_le (by rw [List.length_take]; omega), List.drop_of_length_le (by simp; omega)]
theorem drop_mid (l : S) (u a b : Nat) (h1 : a ≤ b) : (l.take a).drop u ++ (l.take b).drop (max u a) = (l.take b).drop u := by
  by_cases h : u ≤ a
  · rw [Nat.max_eq_right h]
    by_cases ha : a ≤ l.length
    · have e : l.take a = (l.take b).take a := by rw [List.take_take, Nat.min_eq_left h1]
      rw [e, ← List.drop_append_of_le_length (by rw [List.length_take, List.length_take]; omega), List.take_append_drop]
    · rw [List.take_of_length_le (by omega), List.take_of_length_le (by omega), List.drop_of_length_le (l := l) (i := a) (by omega), List.append_nil]
  · rw [Nat.max_eq_left (by omega), List.drop_of_length_le (l := l.take a) (by rw [List.length_take]; omega), List.nil_append]
theorem recK_pi {c : CD} {m : M} {l : S} {u : Nat} (h : PI c l u) (g : CG c m) : ∀ k d, c.vols[k]? = some d → (recK u c.vols k).map itR = ((l.take (d.first - 1)).drop u).map rc
  | 0, d, hd => by
    have := g.f0 d hd
    have hU := h.hU
    unfold recK
    rw [List.drop_of_length_le (by rw [List.length_take]; omega)]
    rfl
  | k + 1, d, hd => by
    have hlt := (List.getElem?_eq_some_iff.1 hd).1
    have hx : c.vols[k]? = some (c.vols[k]'(by omega)) := List.getElem?_eq_getElem (by omega)
    have hm : c.vols[k]'(by omega) ∈ c.vols := List.getElem_mem _
    have hf := (g.vo _ hm).2.2
    have ih := recK_pi h g k _ hx
    have hnx := g.fi k _ d hx hd
    unfold VolD.next at hnx
    unfold recK
    rw [hx]
    show (recK u c.vols k ++ recJ u _ _).map itR = _
    rw [List.map_append, ih, recJ_pi h hm hf _ (Nat.le_refl _), ← List.map_append, drop_mid _ _ _ _ (by omega), hnx]
    congr 3
    omega
theorem PI.recs {c : CD} {m : M} {l : S} {u : Nat} (h : PI c l u) (g : CG c m) : c.recs.map itR = (l.drop u).map rc := by
  unfold CD.recs
  rw [h.hU]
  have hn := h.next
  by_cases h0 : c.vols = []
  · have e : c.hU + 1 = l.length + 1 := by unfold CD.next at hn; rw [h0] at hn; exact hn
    rw [h0]
    have hU := h.hU
    rw [List.drop_of_length_le (by omega)]
    rfl
  · have hp := List.length_pos_iff.2 h0
    obtain ⟨k, hk⟩ : ∃ k, c.vols.length = k + 1 := ⟨c.vols.length - 1, by omega⟩
    have hx : c.vols[k]? = some (c.vols[k]'(by omega)) := List.getElem?_eq_getElem (by omega)
    have hm : c.vols[k]'(by omega) ∈ c.vols := List.getElem_mem _
    have hf := (g.vo _ hm).2.2
    have hl : c.next = (c.vols[k]'(by omega)).next := by
      unfold CD.next
      rw [getLast_at c.vols hp]
      simp only [hk, Nat.add_sub_cancel]
    rw [hl] at hn
    unfold VolD.next at hn
    rw [hk]
    unfold recK
    rw [hx]
    show (recK u c.vols k ++ recJ u _ _).map itR = _
    rw [List.map_append, recK_pi h g k _ hx, recJ_pi h hm hf _ (Nat.le_refl _), ← List.map_append, drop_mid _ _ _ _ (by omega)]
    rw [List.take_of_length_le (by omega)]
theorem PI.its_small {c : CD} {l : S} {u : Nat} (h : PI c l u) {d : VolD} (hd : d ∈ c.vols) : d.its.length ≤ 60 ∧ ∀ x ∈ d.its, x.p.length ≤ 16 := by
  have hl := h.len
  have e := congrArg List.length (h.its d hd)
  simp only [List.length_map, List.length_take, List.length_drop] at e
  refine ⟨by omega, fun x hx => ?_⟩
  have h5 : itR x ∈ d.its.map itR := List.mem_map.2 ⟨x, hx, rfl⟩
  rw [h.its d hd] at h5
  obtain ⟨b, _, hb⟩ := List.mem_map.1 h5
  injection hb with _ hb
  rw [← hb]
  exact byL_len _
theorem PI.small {c : CD} {m : M} {l : S} {u : Nat} (h : PI c l u) (g : CG c m) : c.Small := by
  have hl := h.len
  have hn := h.no
  refine ⟨by omega, by rw [h.hU]; have := h.le; omega, by omega, fun d hd => ⟨?_, ?_, ?_, ?_⟩⟩
  · obtain ⟨i, hi, rfl⟩ := List.getElem_of_mem hd
    rw [g.nos i _ (List.getElem?_eq_getElem hi)]
    omega
  · have := h.fs d hd; unfold VolD.next at this; omega
  · have := (h.its_small hd).1; omega
  · have := h.sz d hd; omega
end Go.Proofs.YtdbhgkbmbbjpdaaGreatDoor.Chr
namespace Go.Proofs.YtdbhgkbmbbjpdaaGreatDoor.Chr
open Go.ChangeShapes Go.WideShapes Go.ChangeAt Go.RowKit
open Shf (S str)
open Coin (Rd Row Own sz coin got Pur takeV endV CoinSaid)
open Frm (pack err size kind cnt body noItem itemV OneSaid)
set_option maxRecDepth 8000
set_option linter.unusedVariables false
open Shf (Tag Ext Rep M RdN get Fine)
variable {lo : Nat}
theorem dec_one : ∀ n : Fin 10, dec n.val = [UInt8.ofNat (48 + n.val)] := by decide +kernel
theorem dec_split : ∀ n : Fin 100, 10 ≤ n.val → dec n.val = dec (n.val / 10) ++ dec (n.val % 10) := by decide +kernel
theorem num1 (w : World) (n : Nat) (h : n < 10) : Calls Tryz.prog 29 #[.int .u64 (n : Int)] w fun e w' => e = .returned (.string (str (dec n))) ∧ Below w.heap.size w w' := by
  have h1 : (n : Int) < 10 := by omega
  have e1 : IntKind.u64.wrap (48 + (n : Int)) = 48 + (n : Int) := by rw [IntKind.wrap_u64]; omega
  have e2 : IntKind.u8.wrap (48 + (n : Int)) = 48 + (n : Int) := by rw [IntKind.wrap_u8]; omega
  have N1 := heap_alloc_new w (.cells #[.int .u8 (48 + (n : Int))] 5)
  have B1 : Below w.heap.size w (w.alloc (.cells #[.int .u8 (48 + (n : Int))] 5)) := (Below.refl _ _).alloc (Nat.le_refl _) _
  have hcv : (convert 30 9 (.slice (some ⟨w.heap.size, 0, none⟩) 1 1)).run Tryz.prog (w.alloc (.cells #[.int .u8 (48 + (n : Int))] 5)) = .ok (.string (str (dec n))) (w.alloc (.cells #[.int .u8 (48 + (n : Int))] 5)) := by
    have e := dec_one ⟨n, h⟩
    have e : dec n = [UInt8.ofNat (48 + n)] := e
    rw [e]
    refine Coin.conv_any (B := w.heap.size + 1) (fun h0 => ⟨_, rfl, by show w.heap.size < _; omega, fun j hj => ?_⟩) 1 1 rfl
    have hj : j < 1 := hj
    obtain rfl : j = 0 := by omega
    have hc := cell_of_row _ w.heap.size 0 _ 5 (0, 0) N1
    refine hc.trans ?_
    show some (Value.int .u8 (48 + (n : Int))) = some (.int .u8 _)
    simp
    omega
  go_enter Tryz.func29, Tryz.ntmps29
  go_wp2
  go_ret
  exact ⟨rfl, B1⟩
theorem num_any (w : World) (n : Nat) (h : n < 100) : Calls Tryz.prog 29 #[.int .u64 (n : Int)] w fun e w' => e = .returned (.string (str (dec n))) ∧ Below w.heap.size w w' := by
  by_cases h9 : n < 10
  · exact num1 w n h9
  have h1 : ¬ (n : Int) < 10 := by omega
  have e1 : (n : Int).tdiv 10 = ((n / 10 : Nat) : Int) := by rw [Int.tdiv_eq_ediv_of_nonneg (by omega)]; omega
  have e2 : (n : Int).tmod 10 = ((n % 10 : Nat) : Int) := by rw [Int.tmod_eq_emod_of_nonneg (by omega)]; omega
  have ea : IntKind.u64.wrap ((n / 10 : Nat) : Int) = ((n / 10 : Nat) : Int) := by rw [IntKind.wrap_u64]; omega
  have eb : IntKind.u64.wrap ((n % 10 : Nat) : Int) = ((n % 10 : Nat) : Int) := by rw [IntKind.wrap_u64]; omega
  have es : str (dec (n / 10)) ++ str (dec (n % 10)) = str (dec n) := by
    have e : dec n = dec (n / 10) ++ dec (n % 10) := dec_split ⟨n, h⟩ (by show 10 ≤ n; omega)
    rw [e, str_add]
  have l1 : (str (dec (n / 10))).size ≤ 2 := (dec_two ⟨n / 10, by omega⟩).1
  have l2 : (str (dec (n % 10))).size ≤ 2 := (dec_two ⟨n % 10, by omega⟩).1
  have hs : ¬ 9223372036854775807 < (str (dec (n / 10))).size + (str (dec (n % 10))).size := by omega
  have C1 := num1 w (n / 10) (by omega)
  have C2 : ∀ y, Calls Tryz.prog 29 #[.int .u64 ((n % 10 : Nat) : Int)] y fun e w' => e = .returned (.string (str (dec (n % 10)))) ∧ Below y.heap.size y w' := fun y => num1 y (n % 10) (by omega)
  clear l1 l2 h h9
  generalize str (dec (n / 10)) = sa at *
  generalize str (dec (n % 10)) = sb at *
  generalize str (dec n) = sc at *
  generalize n / 10 = a at *
  generalize n % 10 = b at *
  go_enter Tryz.func29, Tryz.ntmps29
  go_wp2_with (first | ((with_reducible refine C1.mono ?_); rintro e w1 ⟨rfl, B1⟩; have c2 := C2 w1; clear C1 C2) | ((with_reducible refine c2.mono ?_); rintro e w2 ⟨rfl, B2⟩))
  go_ret
  exact ⟨rfl, B1.trans (B2.mono B1.size)⟩
end Go.Proofs.YtdbhgkbmbbjpdaaGreatDoor.Chr
