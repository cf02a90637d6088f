/- A chronicle with the records of a list of numbers, the first ones folded. Pure. Numbers below a hundred as texts (the reference's), and Base. told, where the first u are folded. -/
import Derived.Test.YtdbhgkbmbbjpdaaGreatDoorPe
import Derived.Test.YtdbhgkbmbbjpdaaGreatDoorOv
namespace Go.Proofs.YtdbhgkbmbbjpdaaGreatDoor.Chr
open Go.ChangeShapes Go.WideShapes Go.ChangeAt Go.RowKit
open Shf (S str)
open Coin (Rd Row Own sz coin got Pur takeV endV CoinSaid)
open Frm (pack err size kind cnt body noItem itemV OneSaid)
set_option maxRecDepth 8000
set_option linter.unusedVariables false
open Shf (Tag Ext Rep M RdN get Fine)
def rc (b : UInt8) : Nat × S := (107 + b.toNat % 3, byL b.toNat)
def itR (x : ItD) : Nat × S := (x.k.toNat, x.p)
def baseS (u : Nat) : S := [98, 97, 115, 101] ++ dec u
structure PI (c : CD) (l : S) (u : Nat) : Prop where
  hU : c.hU = u
  b0 : c.hB = 0 ↔ u = 0
  bs : u ≠ 0 → c.base = baseS u
  its : ∀ d ∈ c.vols, d.its.map itR = ((l.drop (d.first - 1)).take d.its.length).map rc
  next : c.next = l.length + 1
  le : u ≤ l.length
  no : c.hF + c.vols.length ≤ l.length + 1
  sz : ∀ d ∈ c.vols, d.size ≤ 50 + 100 * l.length
  fs : ∀ d ∈ c.vols, d.next ≤ l.length + 1
  len : l.length ≤ 60
theorem pi_new (mo : Nat) : PI ⟨mo, 1, 0, 0, [], [], false⟩ [] 0 :=
  ⟨rfl, by simp, fun h => absurd rfl h, fun d hd => (by cases hd), rfl, Nat.le_refl _, Nat.le_refl _, fun d hd => (by cases hd), fun d hd => (by cases hd), by simp⟩
theorem PI.most {c : CD} {l : S} {u : Nat} (h : PI c l u) (mo : Nat) : PI {c with most := mo} l u := ⟨h.hU, h.b0, h.bs, h.its, h.next, h.le, h.no, h.sz, h.fs, h.len⟩
theorem dec_len (u : Nat) (h : u < 100) : (dec u).length ≤ 2 := (dec_two ⟨u, h⟩).1
theorem PI.fold {c : CD} {l : S} {u n : Nat} (h : PI c l u) (h1 : u < n) (h2 : n ≤ l.length) : PI (foldC c n (baseS n)) l n := by
  refine ⟨rfl, ⟨fun e => (by cases e), fun e => by omega⟩, fun _ => rfl, fun d hd => h.its d (List.mem_of_mem_drop hd), ?_, h2, ?_, fun d hd => h.sz d (List.mem_of_mem_drop hd), fun d hd => h.fs d (List.mem_of_mem_drop hd), h.len⟩
  · have hne : c.vols ≠ [] := fun e => by
      have hn := h.next
      unfold CD.next at hn
      rw [e] at hn
      have : c.hU + 1 = l.length + 1 := hn
      have := h.hU
      omega
    rw [fold_next c n _ hne, h.next]
  · show c.hF + endL c.vols n + (c.vols.drop (endL c.vols n)).length ≤ _
    have hle : endL c.vols n ≤ c.vols.length := by
      by_cases e : c.vols = []
      · rw [e]; exact Nat.le_refl _
      · exact Nat.le_of_lt (endL_lt _ _ e)
    rw [List.length_drop]
    have := h.no
    omega
theorem take_more (l : S) (b : UInt8) (f n : Nat) (h : f + n ≤ l.length) : ((l ++ [b]).drop f).take n = (l.drop f).take n := by
  rw [List.drop_append_of_le_length (by omega), List.take_append_of_le_length (by rw [List.length_drop]; omega)]
theorem take_last (l : S) (b : UInt8) (f n : Nat) (h : f + n = l.length) : ((l ++ [b]).drop f).take (n + 1) = (l.drop f).take n ++ [b] := by
  rw [List.drop_append_of_le_length (by omega), List.take_append, List.take_of_length_le (by rw [List.length_drop]; omega), List.length_drop, show n + 1 - (l.length - f) = 1 by omega, List.take_of_length_le (l := l.drop f) (by rw [List.length_drop]; omega)]
  rfl
theorem PI.more {c c' : CD} {m : M} {l : S} {u : Nat} {k : UInt8} {p : S} (h : PI c l u) (g : CG c m) (hm : More c k p c') (b : UInt8) (hk : k.toNat = 107 + b.toNat % 3) (hp : p = byL b.toNat) (hl : l.length < 60) : PI c' (l ++ [b]) u := by
  obtain ⟨_, ⟨s1, s2, s3, s4, s5, s6⟩, hlen, hnx, hsz⟩ := hm.mr
  have hll : (l ++ [b]).length = l.length + 1 := by simp
  have hx : ∀ a e, itR (⟨k, p, a, e⟩ : ItD) = rc b := fun a e => by unfold itR rc; rw [← hk, ← hp]
  have hold : ∀ d ∈ c.vols, d.its.map itR = (((l ++ [b]).drop (d.first - 1)).take d.its.length).map rc := fun d hd => by
    have hf := (g.vo d hd).2.2
    have hn := h.fs d hd
    unfold VolD.next at hn
    rw [h.its d hd, take_more l b _ _ (by omega)]
  have hlast : ∀ d l0, c.vols = l0 ++ [d] → d.next = l.length + 1 := fun d l0 e => by
    have := h.next
    unfold CD.next at this
    rw [e, List.getLast?_append, List.getLast?_singleton] at this
    exact this
  have hits : ∀ d ∈ c'.vols, d.its.map itR = (((l ++ [b]).drop (d.first - 1)).take d.its.length).map rc ∧ d.next ≤ l.length + 2 := by
    rcases hm with ⟨l0, d0, e0, _, rfl⟩ | ⟨_, rfl⟩
    · unfold atlC
      rw [if_pos rfl]
      intro d hd
      have hd : d ∈ l0 ++ [_] := hd
      rcases List.mem_append.1 hd with hd | hd
      · have hd2 : d ∈ c.vols := by rw [e0]; exact List.mem_append_left _ hd
        exact ⟨hold d hd2, by have := h.fs d hd2; omega⟩
      · rw [List.mem_singleton.1 hd]
        have hd0 : d0 ∈ c.vols := by rw [e0]; simp
        have hn := hlast d0 l0 e0
        have hf := (g.vo d0 hd0).2.2
        unfold VolD.next at hn
        have hi := h.its d0 hd0
        refine ⟨?_, by show d0.first + (d0.its ++ [_]).length ≤ _; rw [List.length_append]; simp only [List.length_cons, List.length_nil]; omega⟩
        show (d0.its ++ [_]).map itR = (((l ++ [b]).drop (d0.first - 1)).take (d0.its ++ [_]).length).map rc
        rw [List.map_append, List.length_append, List.length_cons, List.length_nil, take_last l b _ _ (by omega), List.map_append, hi]
        simp [hx]
    · unfold atlC
      rw [if_pos rfl]
      intro d hd
      have hd : d ∈ c.vols ++ [_] := hd
      rcases List.mem_append.1 hd with hd | hd
      · exact ⟨hold d hd, by have := h.fs d hd; omega⟩
      · rw [List.mem_singleton.1 hd]
        have hn := h.next
        refine ⟨?_, by show c.next + 1 ≤ _; omega⟩
        show [itR _] = (((l ++ [b]).drop (c.next - 1)).take 1).map rc
        rw [hn, Nat.add_sub_cancel, List.drop_left]
        simp [hx]
  refine ⟨s3.trans h.hU, by rw [s2]; exact h.b0, fun e => by rw [s4]; exact h.bs e, fun d hd => (hits d hd).1, by rw [hnx, h.next, hll], by have := h.le; omega, by rw [s1, hll]; have := h.no; omega, fun d hd => ?_, fun d hd => by rw [hll]; exact (hits d hd).2, by omega⟩
  have h1 := hsz (50 + 100 * l.length) (by omega) h.sz d hd
  have h2 := byL_len b.toNat
  rw [Frm.length_pack] at h1
  have h3 := Coin.sz_le p.length
  rw [hll]
  rw [hp] at h1 h3
  omega
theorem recJ_pi {c : CD} {l : S} {u : Nat} (h : PI c l u) {d : VolD} (hd : d ∈ c.vols) (hf : 0 < d.first) : ∀ j, j ≤ d.its.length → (recJ u d j).map itR = (((l.take (d.first - 1 + j)).drop (max u (d.first - 1))).map rc)
  | 0, _ => by
    unfold recJ
    rw [List.drop_of_length_le (by rw [List.length_take]; omega)]
    rfl
  | j + 1, hj => by
    have ih := recJ_pi h hd hf j (by omega)
    have hn := h.fs d hd
    unfold VolD.next at hn
    have hx : d.its[j]? = some d.its[j] := List.getElem?_eq_getElem (by omega)
    have hit : itR d.its[j] = rc (l[d.first - 1 + j]'(by omega)) := by
      have e := congrArg (fun z => z[j]?) (h.its d hd)
      simp only [List.getElem?_map, hx, Option.map_some] at e
      rw [List.getElem?_take_of_lt (by omega), List.getElem?_drop, List.getElem?_eq_getElem (show d.first - 1 + j < l.length by omega)] at e
      simpa using e
    have htk : l.take (d.first - 1 + (j + 1)) = l.take (d.first - 1 + j) ++ [l[d.first - 1 + j]'(by omega)] := by
      rw [← Nat.add_assoc, List.take_succ_eq_append_getElem (by omega)]
    unfold recJ
    rw [hx, htk]
    show ((recJ u d j) ++ (match decide (u < d.first + j) with | true => [d.its[j]] | false => [])).map itR = _
    by_cases hu : u < d.first + j
    · rw [decide_eq_true hu, List.map_append, ih, List.drop_append_of_le_length (by rw [List.length_take]; omega), List.map_append]
      simp [hit]
    · rw [decide_eq_false hu, List.append_nil, ih, List.drop_of_length_le (by rw [List.length_take]; omega), List.drop_of_length_le (by simp; omega)]
theorem drop_mid (l : S) (u a b : Nat) (h1 : a ≤ b) : (l.take a).drop u ++ (l.take b).drop (max u a) = (l.take b).drop u := by
  by_cases h : u ≤ a
  · rw [Nat.max_eq_right h]
    by_cases ha : a ≤ l.length
    · have e : l.take a = (l.take b).take a := by rw [List.take_take, Nat.min_eq_left h1]
      rw [e, ← List.drop_append_of_le_length (by rw [List.length_take, List.length_take]; omega), List.take_append_drop]
    · rw [List.take_of_length_le (by omega), List.take_of_length_le (by omega), List.drop_of_length_le (l := l) (i := a) (by omega), List.append_nil]
  · rw [Nat.max_eq_left (by omega), List.drop_of_length_le (l := l.take a) (by rw [List.length_take]; omega), List.nil_append]
theorem recK_pi {c : CD} {m : M} {l : S} {u : Nat} (h : PI c l u) (g : CG c m) : ∀ k d, c.vols[k]? = some d → (recK u c.vols k).map itR = ((l.take (d.first - 1)).drop u).map rc
  | 0, d, hd => by
    have := g.f0 d hd
    have hU := h.hU
    unfold recK
    rw [List.drop_of_length_le (by rw [List.length_take]; omega)]
    rfl
  | k + 1, d, hd => by
    have hlt := (List.getElem?_eq_some_iff.1 hd).1
    have hx : c.vols[k]? = some (c.vols[k]'(by omega)) := List.getElem?_eq_getElem (by omega)
    have hm : c.vols[k]'(by omega) ∈ c.vols := List.getElem_mem _
    have hf := (g.vo _ hm).2.2
    have ih := recK_pi h g k _ hx
    have hnx := g.fi k _ d hx hd
    unfold VolD.next at hnx
    unfold recK
    rw [hx]
    show (recK u c.vols k ++ recJ u _ _).map itR = _
    rw [List.map_append, ih, recJ_pi h hm hf _ (Nat.le_refl _), ← List.map_append, drop_mid _ _ _ _ (by omega), hnx]
    congr 3
    omega
theorem PI.recs {c : CD} {m : M} {l : S} {u : Nat} (h : PI c l u) (g : CG c m) : c.recs.map itR = (l.drop u).map rc := by
  unfold CD.recs
  rw [h.hU]
  have hn := h.next
  by_cases h0 : c.vols = []
  · have e : c.hU + 1 = l.length + 1 := by unfold CD.next at hn; rw [h0] at hn; exact hn
    rw [h0]
    have hU := h.hU
    rw [List.drop_of_length_le (by omega)]
    rfl
  · have hp := List.length_pos_iff.2 h0
    obtain ⟨k, hk⟩ : ∃ k, c.vols.length = k + 1 := ⟨c.vols.length - 1, by omega⟩
    have hx : c.vols[k]? = some (c.vols[k]'(by omega)) := List.getElem?_eq_getElem (by omega)
    have hm : c.vols[k]'(by omega) ∈ c.vols := List.getElem_mem _
    have hf := (g.vo _ hm).2.2
    have hl : c.next = (c.vols[k]'(by omega)).next := by
      unfold CD.next
      rw [getLast_at c.vols hp]
      simp only [hk, Nat.add_sub_cancel]
    rw [hl] at hn
    unfold VolD.next at hn
    rw [hk]
    unfold recK
    rw [hx]
    show (recK u c.vols k ++ recJ u _ _).map itR = _
    rw [List.map_append, recK_pi h g k _ hx, recJ_pi h hm hf _ (Nat.le_refl _), ← List.map_append, drop_mid _ _ _ _ (by omega)]
    rw [List.take_of_length_le (by omega)]
theorem PI.its_small {c : CD} {l : S} {u : Nat} (h : PI c l u) {d : VolD} (hd : d ∈ c.vols) : d.its.length ≤ 60 ∧ ∀ x ∈ d.its, x.p.length ≤ 16 := by
  have hl := h.len
  have e := congrArg List.length (h.its d hd)
  simp only [List.length_map, List.length_take, List.length_drop] at e
  refine ⟨by omega, fun x hx => ?_⟩
  have h5 : itR x ∈ d.its.map itR := List.mem_map.2 ⟨x, hx, rfl⟩
  rw [h.its d hd] at h5
  obtain ⟨b, _, hb⟩ := List.mem_map.1 h5
  injection hb with _ hb
  rw [← hb]
  exact byL_len _
theorem PI.small {c : CD} {m : M} {l : S} {u : Nat} (h : PI c l u) (g : CG c m) : c.Small := by
  have hl := h.len
  have hn := h.no
  refine ⟨by omega, by rw [h.hU]; have := h.le; omega, by omega, fun d hd => ⟨?_, ?_, ?_, ?_⟩⟩
  · obtain ⟨i, hi, rfl⟩ := List.getElem_of_mem hd
    rw [g.nos i _ (List.getElem?_eq_getElem hi)]
    omega
  · have := h.fs d hd; unfold VolD.next at this; omega
  · have := (h.its_small hd).1; omega
  · have := h.sz d hd; omega
theorem recJ_len (u : Nat) (d : VolD) : ∀ j, (recJ u d j).length ≤ d.its.length := recJ_le u d
theorem PI.recs_small {c : CD} {m : M} {l : S} {u : Nat} (h : PI c l u) (g : CG c m) : ∀ k j d, c.vols[k]? = some d → (recK c.hU c.vols k ++ recJ c.hU d j).length ≤ 1000000 := by
  intro k j d hk
  have hl := h.len
  have hm := List.mem_of_getElem? hk
  have h1 := recJ_len c.hU d j
  have h2 := (h.its_small hm).1
  have h3 := congrArg List.length (recK_pi h g k d hk)
  simp only [List.length_map, List.length_drop, List.length_take] at h3
  rw [← h.hU] at h3
  rw [List.length_append]
  omega
end Go.Proofs.YtdbhgkbmbbjpdaaGreatDoor.Chr
namespace Go.Proofs.YtdbhgkbmbbjpdaaGreatDoor.Chr
open Go.ChangeShapes Go.WideShapes Go.ChangeAt Go.RowKit
open Shf (S str)
open Coin (Rd Row Own sz coin got Pur takeV endV CoinSaid)
open Frm (pack err size kind cnt body noItem itemV OneSaid)
set_option maxRecDepth 8000
set_option linter.unusedVariables false
open Shf (Tag Ext Rep M RdN get Fine)
variable {lo : Nat}
theorem dec_one : ∀ n : Fin 10, dec n.val = [UInt8.ofNat (48 + n.val)] := by decide +kernel
theorem dec_split : ∀ n : Fin 100, 10 ≤ n.val → dec n.val = dec (n.val / 10) ++ dec (n.val % 10) := by decide +kernel
theorem num1 (w : World) (n : Nat) (h : n < 10) : Calls Tryz.prog 29 #[.int .u64 (n : Int)] w fun e w' => e = .returned (.string (str (dec n))) ∧ Below w.heap.size w w' := by
  have h1 : (n : Int) < 10 := by omega
  have e1 : IntKind.u64.wrap (48 + (n : Int)) = 48 + (n : Int) := by rw [IntKind.wrap_u64]; omega
  have e2 : IntKind.u8.wrap (48 + (n : Int)) = 48 + (n : Int) := by rw [IntKind.wrap_u8]; omega
  have N1 := heap_alloc_new w (.cells #[.int .u8 (48 + (n : Int))] 5)
  have B1 : Below w.heap.size w (w.alloc (.cells #[.int .u8 (48 + (n : Int))] 5)) := (Below.refl _ _).alloc (Nat.le_refl _) _
  have hcv : (convert 30 9 (.slice (some ⟨w.heap.size, 0, none⟩) 1 1)).run Tryz.prog (w.alloc (.cells #[.int .u8 (48 + (n : Int))] 5)) = .ok (.string (str (dec n))) (w.alloc (.cells #[.int .u8 (48 + (n : Int))] 5)) := by
    have e := dec_one ⟨n, h⟩
    have e : dec n = [UInt8.ofNat (48 + n)] := e
    rw [e]
    refine Coin.conv_any (B := w.heap.size + 1) (fun h0 => ⟨_, rfl, by show w.heap.size < _; omega, fun j hj => ?_⟩) 1 1 rfl
    have hj : j < 1 := hj
    obtain rfl : j = 0 := by omega
    have hc := cell_of_row _ w.heap.size 0 _ 5 (0, 0) N1
    refine hc.trans ?_
    show some (Value.int .u8 (48 + (n : Int))) = some (.int .u8 _)
    simp
    omega
  go_enter Tryz.func29, Tryz.ntmps29
  go_wp2
  go_ret
  exact ⟨rfl, B1⟩
theorem num_any (w : World) (n : Nat) (h : n < 100) : Calls Tryz.prog 29 #[.int .u64 (n : Int)] w fun e w' => e = .returned (.string (str (dec n))) ∧ Below w.heap.size w w' := by
  by_cases h9 : n < 10
  · exact num1 w n h9
  have h1 : ¬ (n : Int) < 10 := by omega
  have e1 : (n : Int).tdiv 10 = ((n / 10 : Nat) : Int) := by rw [Int.tdiv_eq_ediv_of_nonneg (by omega)]; omega
  have e2 : (n : Int).tmod 10 = ((n % 10 : Nat) : Int) := by rw [Int.tmod_eq_emod_of_nonneg (by omega)]; omega
  have ea : IntKind.u64.wrap ((n / 10 : Nat) : Int) = ((n / 10 : Nat) : Int) := by rw [IntKind.wrap_u64]; omega
  have eb : IntKind.u64.wrap ((n % 10 : Nat) : Int) = ((n % 10 : Nat) : Int) := by rw [IntKind.wrap_u64]; omega
  have es : str (dec (n / 10)) ++ str (dec (n % 10)) = str (dec n) := by
    have e : dec n = dec (n / 10) ++ dec (n % 10) := dec_split ⟨n, h⟩ (by show 10 ≤ n; omega)
    rw [e, str_add]
  have l1 : (str (dec (n / 10))).size ≤ 2 := (dec_two ⟨n / 10, by omega⟩).1
  have l2 : (str (dec (n % 10))).size ≤ 2 := (dec_two ⟨n % 10, by omega⟩).1
  have hs : ¬ 9223372036854775807 < (str (dec (n / 10))).size + (str (dec (n % 10))).size := by omega
  have C1 := num1 w (n / 10) (by omega)
  have C2 : ∀ y, Calls Tryz.prog 29 #[.int .u64 ((n % 10 : Nat) : Int)] y fun e w' => e = .returned (.string (str (dec (n % 10)))) ∧ Below y.heap.size y w' := fun y => num1 y (n % 10) (by omega)
  clear l1 l2 h h9
  generalize str (dec (n / 10)) = sa at *
  generalize str (dec (n % 10)) = sb at *
  generalize str (dec n) = sc at *
  generalize n / 10 = a at *
  generalize n % 10 = b at *
  go_enter Tryz.func29, Tryz.ntmps29
  go_wp2_with (first | ((with_reducible refine C1.mono ?_); rintro e w1 ⟨rfl, B1⟩; have c2 := C2 w1; clear C1 C2) | ((with_reducible refine c2.mono ?_); rintro e w2 ⟨rfl, B2⟩))
  go_ret
  exact ⟨rfl, B1.trans (B2.mono B1.size)⟩
theorem base_c1 (w : World) (T : Nat → Tag) (p q : Nat) (c : CD) (h : CAt lo w T p q c) (hB : c.hB ≠ 0) (hl : c.base.length ≤ 1000) : Calls Tryz.prog 36 #[.pointer (some ⟨p, 0, none⟩)] w fun e w' => ∃ A cp, e = .returned (.tuple #[.slice A c.base.length cp, .int .i64 0]) ∧ Own w' w.heap.size (.slice A c.base.length cp) c.base ∧ Below w.heap.size w w' := by
  obtain ⟨bA, bc, vv, gv, h⟩ := h
  have hr := h.row
  have C5 := clone_any w bA c.base.length bc c.base rfl (by omega) h.ba.rd h.ba.1
  unfold cC at hr
  obtain ⟨p0, p1, p2, p3, p4, p5, p6, p7, -⟩ := row8 hr
  have hB' : ¬ ((c.hB : Int) = 0) := by omega
  clear hr h hB
  go_enter Tryz.func36, Tryz.ntmps36
  go_wp2_with (go_at_call 54; (with_reducible refine C5.mono ?_); rintro e w1 ⟨A', c', rfl, O1, B1⟩)
  go_ret2
  exact ⟨_, _, rfl, O1, B1⟩
theorem fold_arg (w : World) (T : Nat → Tag) (p q : Nat) (c : CD) (C : CAt lo w T p q c) (hs : c.Small) (u : Nat) (hu : u ≤ c.hU ∨ c.next ≤ u) (A : Option Addr) (n9 cp : Nat) :
    Calls Tryz.prog 32 #[.pointer (some ⟨p, 0, none⟩), .int .u64 (u : Int), .slice A n9 cp] w fun e w' => e = .returned (.int .i64 1) ∧ Below w.heap.size w w' := by
  have c19 := next_any w T p q c C hs
  obtain ⟨nx, hnx9⟩ : ∃ n, n = c.next := ⟨_, rfl⟩
  rw [← hnx9] at c19 hu
  obtain ⟨bA, bc, vv, gv, Cv⟩ := C
  have hr0 := Cv.row
  unfold cC at hr0
  obtain ⟨p0, p1, p2, p3, p4, p5, p6, p7, -⟩ := row8 hr0
  have B0 := Below.refl w.heap.size w
  clear hnx9 Cv hr0 p0 p1 p2 p3 p5 p6 p7
  by_cases h1 : u ≤ c.hU
  · have k1 : (u : Int) ≤ (c.hU : Int) := by omega
    clear c19 hu
    go_enter Tryz.func32, Tryz.ntmps32
    go_wp2
    go_ret
    exact ⟨rfl, B0⟩
  · have k1 : ¬ (u : Int) ≤ (c.hU : Int) := by omega
    have k2 : nx ≤ u := by omega
    clear hu
    go_enter Tryz.func32, Tryz.ntmps32
    go_wp2_with fail
    refine c19.mono ?_
    rintro e wa ⟨rfl, Ba⟩
    clear c19 p4
    go_wp2_with fail
    go_ret
    exact ⟨rfl, Ba⟩
end Go.Proofs.YtdbhgkbmbbjpdaaGreatDoor.Chr
namespace Go.Proofs.YtdbhgkbmbbjpdaaGreatDoor.Chr
open Go.ChangeShapes Go.WideShapes Go.ChangeAt Go.RowKit
open Shf (S str)
open Coin (Rd Row Own sz coin got Pur takeV endV CoinSaid)
open Frm (pack err size kind cnt body noItem itemV OneSaid)
set_option maxRecDepth 8000
set_option linter.unusedVariables false
open Shf (Tag Ext Rep M RdN get Fine)
variable {lo : Nat}
set_option maxHeartbeats 4000000 in
theorem told_any (w : World) (T : Nat → Tag) (p q : Nat) (m : M) (c : CD) (C : CAt lo w T p q c) (hT : ∀ b, w.heap.size ≤ b → T b = .none) (G : CG c m)
    (l : S) (u : Nat) (P : PI c l u) (LA : Option Addr) (ln lc : Nat) (hln : ln = l.length) (hr : Rd w w.heap.size LA l) (sf : Int) :
    Calls Tryz.prog 13 #[.pointer (some ⟨p, 0, none⟩), .agg #[.slice LA ln lc, .int .i64 (u : Int), .int .i64 sf]] w fun e w' => e = .returned (.bool true) ∧ Below w.heap.size w w' := by
  have hs := P.small G
  have hU := P.hU
  have hnx : c.next = ln + 1 := by rw [P.next, hln]
  have hull : u ≤ ln := by rw [hln]; exact P.le
  have hbl : u ≠ 0 → c.base.length ≤ 1000 := fun h0 => by
    rw [P.bs h0]; unfold baseS; have := dec_len u (by have := P.len; have := P.le; omega); simp only [List.length_append, List.length_cons, List.length_nil]; omega
  have N1 := heap_alloc_new w (.cells #[.slice LA ln lc, .int .i64 (u : Int), .int .i64 sf] 32)
  have B1 : Below w.heap.size w (w.alloc (.cells #[.slice LA ln lc, .int .i64 (u : Int), .int .i64 sf] 32)) := (Below.refl _ _).alloc (Nat.le_refl _) _
  obtain ⟨w1, hw1⟩ : ∃ x, x = w.alloc (.cells #[.slice LA ln lc, .int .i64 (u : Int), .int .i64 sf] 32) := ⟨_, rfl⟩
  rw [← hw1] at N1 B1
  have c37 := recs_any w1 T p q c (C.keep (kp_below B1 T)) (fun b hb => hT b (Nat.le_trans B1.size hb)) hs (by have := P.no; have := P.len; omega) (fun d hd => by have := (P.its_small hd).1; omega) (fun d hd x hx => by have := (P.its_small hd).2 x hx; omega) (P.recs_small G)
  rw [hU] at c37
  obtain ⟨rn, hrn⟩ : ∃ n, n = c.recs.length := ⟨_, rfl⟩
  have hrl2 : c.recs.length = rn := hrn.symm
  have hrln : rn + u = ln := by have e := congrArg List.length (P.recs G); simp only [List.length_map, List.length_drop] at e; rw [hrn, e, ← hln]; omega
  have hln9 : ln ≤ 900 := by rw [hln]; have := P.len; omega
  obtain ⟨hF, hhF⟩ : ∃ x, x = c.hF := ⟨_, rfl⟩
  obtain ⟨hB, hhB⟩ : ∃ x, x = c.hB := ⟨_, rfl⟩
  have HNX : Hid (∀ y, Below w1.heap.size w1 y → Calls Tryz.prog 19 #[.pointer (some ⟨p, 0, none⟩)] y fun e w' => e = .returned (.int .u64 ((ln + 1 : Nat) : Int)) ∧ Below y.heap.size y w') := fun y hy => by
    have e := next_any y T p q c (C.keep ((kp_below B1 T).trans (kp_below hy T))) hs
    rw [hnx] at e
    exact e
  have HHD : Hid (∀ y, Below w1.heap.size w1 y → Calls Tryz.prog 20 #[.pointer (some ⟨p, 0, none⟩)] y fun e w' => e = .returned (.agg #[.int .u64 (hF : Int), .int .u64 (hB : Int), .int .u64 (u : Int)]) ∧ Below y.heap.size y w') := fun y hy => by
    have e := head_c y T p q c (C.keep ((kp_below B1 T).trans (kp_below hy T)))
    rw [hU, ← hhF, ← hhB] at e
    exact e
  have HBC : Hid (∀ y, Below w1.heap.size w1 y → CAt lo y T p q c) := fun y hy => C.keep ((kp_below B1 T).trans (kp_below hy T))
  have HW : Hid (IntKind.i64.wrap ((ln : Int) - (u : Int)) = (rn : Int) ∧ IntKind.i64.wrap ((ln : Int) + 1) = (ln : Int) + 1) := ⟨by rw [IntKind.wrap_i64]; omega, by rw [IntKind.wrap_i64]; omega⟩
  have HLT : Hid (IntKind.i64.wrap ((u : Int) + 1) = (u : Int) + 1 ∧ IntKind.i64.wrap ((u : Int) + 1) = (u : Int) + 1 ∧ IntKind.i64.wrap (u : Int) = (u : Int)) := ⟨by rw [IntKind.wrap_i64]; omega, by rw [IntKind.wrap_i64]; omega, by rw [IntKind.wrap_i64]; omega⟩
  have HFD : Hid (∀ (w : World) (a b c : Value), (Instr.field 45 (.agg #[a, b, c]) 2).run Tryz.prog w = .ok c w) := fun w a b c => by rfl
  have HH := Lib.hid (And.intro (And.intro P G) (And.intro hln (And.intro hr (And.intro B1 hln9))))
  have HRN := Lib.hid hrln
  have HBL := Lib.hid hbl
  obtain ⟨b3, hb3⟩ : ∃ x, x = w.heap.size := ⟨_, rfl⟩
  have HB3 : Hid (w1.heap[b3]? = some (.cells #[.slice LA ln lc, .int .i64 (u : Int), .int .i64 sf] 32) ∧ b3 < w1.heap.size) := ⟨by rw [hb3]; exact N1, by rw [hb3]; exact (Array.getElem?_eq_some_iff.1 N1).1⟩
  clear N1 B1 C hT hs hln hr hln9 hhF hhB hU hnx hull hrn hrln hbl P G
  go_enter Tryz.func13, Tryz.ntmps13
  go_upto_region 1 with (fail)
  rw [← hw1, ← hb3]
  clear hw1 hb3
  go_upto_region 2 with (go_at_call 37; (with_reducible refine c37.mono ?_); rintro e w2 ⟨v5, gl, rfl, L2, F2, B2⟩; have H1 := Lib.hid (And.intro L2 B2); clear L2 F2 B2 c37)
  obtain ⟨vA, vc, rfl⟩ : ∃ A cp, v5 = .slice A rn cp := by
    obtain ⟨ds, _, k2, _⟩ := H1.out.1
    obtain ⟨A, cp, e, _⟩ := k2.form
    exact ⟨A, cp, by rw [e, hrl2]⟩
  have HRL := Lib.hid hrl2
  clear hrl2
  have HBW := Lib.hid ((Below.refl w2.heap.size w2).drew)
  refine wp_region_noPanic ?_
  refine wp_region_held_drew (S := fun y : World => y.heap[b3]? = some (.cells #[.slice LA ln lc, .int .i64 (u : Int), .int .i64 sf] 32)) (by kernel_rfl) ((H1.out.2.drew.block b3 HB3.out.2).trans HB3.out.1) (fun hHeld => ?_)
  generalize w2.drew = wd at *
  refine wpAnyH_take (i := 0) (oi := ⟨some 16, .move (.tmp 5), 58, "law.go:49", #[], none⟩) (v := .slice vA rn vc) rfl (by kernel_rfl) (by kernel_rfl) (by kernel_rfl) (fun _ _ _ h => h) (Or.inl ⟨by rfl, fun w hSw => by go_simp⟩) (by assumption) ?_
  try simp only [Act.put, List.setIfInBounds_toArray, List.set_cons_zero, List.set_cons_succ]
  refine wpAnyH_take (i := 1) (oi := ⟨some 17, .call ⟨.builtin .len, #[.tmp 16], #[58]⟩, 3, "law.go:49", #[⟨0, .data⟩], none⟩) (v := .int .i64 (rn : Int)) rfl (by kernel_rfl) (by kernel_rfl) (by kernel_rfl) (fun _ _ _ h => h) (Or.inl ⟨by rfl, fun w hSw => by go_simp⟩) (by assumption) ?_
  try simp only [Act.put, List.setIfInBounds_toArray, List.set_cons_zero, List.set_cons_succ]
  refine wpAnyH_take (i := 2) (oi := ⟨some 18, .fieldAddr 32 (.tmp 3) 0, 0, "law.go:49", #[], none⟩) (v := .pointer (some ⟨b3, 0, none⟩)) rfl (by kernel_rfl) (by kernel_rfl) (by kernel_rfl) (fun _ _ _ h => h) (Or.inl ⟨by rfl, fun w hSw => by go_simp⟩) (by assumption) ?_
  try simp only [Act.put, List.setIfInBounds_toArray, List.set_cons_zero, List.set_cons_succ]
  refine wpAnyH_take (i := 3) (oi := ⟨some 19, .load 30 (.tmp 18), 30, "law.go:49", #[⟨2, .data⟩], none⟩) (v := .slice LA ln lc) rfl (by kernel_rfl) (by kernel_rfl) (by kernel_rfl) (fun _ _ _ h => h) (Or.inl ⟨by rfl, fun w hSw => by obtain ⟨z0, z1, z2, -⟩ := cells3 hSw; go_simp⟩) (by assumption) ?_
  try simp only [Act.put, List.setIfInBounds_toArray, List.set_cons_zero, List.set_cons_succ]
  refine wpAnyH_take (i := 4) (oi := ⟨some 20, .call ⟨.builtin .len, #[.tmp 19], #[30]⟩, 3, "law.go:49", #[⟨3, .data⟩], none⟩) (v := .int .i64 (ln : Int)) rfl (by kernel_rfl) (by kernel_rfl) (by kernel_rfl) (fun _ _ _ h => h) (Or.inl ⟨by rfl, fun w hSw => by go_simp⟩) (by assumption) ?_
  try simp only [Act.put, List.setIfInBounds_toArray, List.set_cons_zero, List.set_cons_succ]
  refine wpAnyH_take (i := 5) (oi := ⟨some 21, .fieldAddr 32 (.tmp 3) 1, 0, "law.go:49", #[], none⟩) (v := .pointer (some ⟨b3, 1, none⟩)) rfl (by kernel_rfl) (by kernel_rfl) (by kernel_rfl) (fun _ _ _ h => h) (Or.inl ⟨by rfl, fun w hSw => by go_simp⟩) (by assumption) ?_
  try simp only [Act.put, List.setIfInBounds_toArray, List.set_cons_zero, List.set_cons_succ]
  refine wpAnyH_take (i := 6) (oi := ⟨some 22, .load 3 (.tmp 21), 3, "law.go:49", #[⟨5, .data⟩], none⟩) (v := .int .i64 (u : Int)) rfl (by kernel_rfl) (by kernel_rfl) (by kernel_rfl) (fun _ _ _ h => h) (Or.inl ⟨by rfl, fun w hSw => by obtain ⟨z0, z1, z2, -⟩ := cells3 hSw; go_simp⟩) (by assumption) ?_
  try simp only [Act.put, List.setIfInBounds_toArray, List.set_cons_zero, List.set_cons_succ]
  refine wpAnyH_take (i := 7) (oi := ⟨some 23, .binOp .sub 3 (.tmp 20) (.tmp 22) 3, 3, "law.go:49", #[⟨4, .data⟩, ⟨6, .data⟩], none⟩) (v := .int .i64 (rn : Int)) rfl (by kernel_rfl) (by kernel_rfl) (by kernel_rfl) (fun _ _ _ h => h) (Or.inl ⟨by rfl, fun w hSw => by have hz := HW.out.1; go_simp⟩) (by assumption) ?_
  try simp only [Act.put, List.setIfInBounds_toArray, List.set_cons_zero, List.set_cons_succ]
  refine wpAnyH_take (i := 8) (oi := ⟨some 24, .binOp .neq 3 (.tmp 17) (.tmp 23) 3, 4, "law.go:49", #[⟨1, .data⟩, ⟨7, .data⟩], none⟩) (v := .bool false) rfl (by kernel_rfl) (by kernel_rfl) (by kernel_rfl) (fun _ _ _ h => h) (Or.inl ⟨by rfl, fun w hSw => by go_simp⟩) (by assumption) ?_
  try simp only [Act.put, List.setIfInBounds_toArray, List.set_cons_zero, List.set_cons_succ]
  refine wpAnyH_take (i := 9) (oi := ⟨some 25, .move (.tmp 24), 4, "law.go:49", #[⟨8, .data⟩], none⟩) (v := .bool false) rfl (by kernel_rfl) (by kernel_rfl) (by kernel_rfl) (fun _ _ _ h => h) (Or.inl ⟨by rfl, fun w hSw => by go_simp⟩) (by assumption) ?_
  try simp only [Act.put, List.setIfInBounds_toArray, List.set_cons_zero, List.set_cons_succ]
  refine wpAnyH_take (i := 10) (oi := ⟨some 26, .move (.tmp 6), 42, "law.go:49", #[⟨9, .guard⟩], some (9, false)⟩) (v := .int .u64 ((u + 1 : Nat) : Int)) rfl (by kernel_rfl) (by kernel_rfl) (by kernel_rfl) (fun _ _ _ h => h) (Or.inl ⟨by rfl, fun w hSw => by go_simp⟩) (by assumption) ?_
  try simp only [Act.put, List.setIfInBounds_toArray, List.set_cons_zero, List.set_cons_succ]
  refine wpAnyH_take (i := 11) (oi := ⟨some 27, .convert 42 3 (.tmp 26), 3, "law.go:49", #[⟨10, .data⟩, ⟨9, .guard⟩], some (9, false)⟩) (v := .int .i64 ((u + 1 : Nat) : Int)) rfl (by kernel_rfl) (by kernel_rfl) (by kernel_rfl) (fun _ _ _ h => h) (Or.inl ⟨by rfl, fun w hSw => by have hz := HLT.out.1; go_simp⟩) (by assumption) ?_
  try simp only [Act.put, List.setIfInBounds_toArray, List.set_cons_zero, List.set_cons_succ]
  refine wpAnyH_take (i := 12) (oi := ⟨some 28, .fieldAddr 32 (.tmp 3) 1, 0, "law.go:49", #[⟨9, .guard⟩], some (9, false)⟩) (v := .pointer (some ⟨b3, 1, none⟩)) rfl (by kernel_rfl) (by kernel_rfl) (by kernel_rfl) (fun _ _ _ h => h) (Or.inl ⟨by rfl, fun w hSw => by go_simp⟩) (by assumption) ?_
  try simp only [Act.put, List.setIfInBounds_toArray, List.set_cons_zero, List.set_cons_succ]
  refine wpAnyH_take (i := 13) (oi := ⟨some 29, .load 3 (.tmp 28), 3, "law.go:49", #[⟨12, .data⟩, ⟨9, .guard⟩], some (9, false)⟩) (v := .int .i64 (u : Int)) rfl (by kernel_rfl) (by kernel_rfl) (by kernel_rfl) (fun _ _ _ h => h) (Or.inl ⟨by rfl, fun w hSw => by obtain ⟨z0, z1, z2, -⟩ := cells3 hSw; go_simp⟩) (by assumption) ?_
  try simp only [Act.put, List.setIfInBounds_toArray, List.set_cons_zero, List.set_cons_succ]
  refine wpAnyH_take (i := 14) (oi := ⟨some 30, .binOp .add 3 (.tmp 29) (.const (.int .i64 1)) 3, 3, "law.go:49", #[⟨13, .data⟩, ⟨9, .guard⟩], some (9, false)⟩) (v := .int .i64 ((u + 1 : Nat) : Int)) rfl (by kernel_rfl) (by kernel_rfl) (by kernel_rfl) (fun _ _ _ h => h) (Or.inl ⟨by rfl, fun w hSw => by have hz := HLT.out.2.1; go_simp⟩) (by assumption) ?_
  try simp only [Act.put, List.setIfInBounds_toArray, List.set_cons_zero, List.set_cons_succ]
  refine wpAnyH_take (i := 15) (oi := ⟨some 31, .binOp .neq 3 (.tmp 27) (.tmp 30) 3, 4, "law.go:49", #[⟨11, .data⟩, ⟨14, .data⟩, ⟨9, .guard⟩], some (9, false)⟩) (v := .bool false) rfl (by kernel_rfl) (by kernel_rfl) (by kernel_rfl) (fun _ _ _ h => h) (Or.inl ⟨by rfl, fun w hSw => by go_simp⟩) (by assumption) ?_
  try simp only [Act.put, List.setIfInBounds_toArray, List.set_cons_zero, List.set_cons_succ]
  refine wpAnyH_take (i := 16) (oi := ⟨some 32, .pick (.tmp 25) (.const (.bool true)) (.tmp 31), 4, "law.go:49", #[⟨9, .data⟩, ⟨15, .data⟩], none⟩) (v := .bool false) rfl (by kernel_rfl) (by kernel_rfl) (by kernel_rfl) (fun _ _ _ h => h) (Or.inl ⟨by rfl, fun w hSw => by go_simp⟩) (by assumption) ?_
  try simp only [Act.put, List.setIfInBounds_toArray, List.set_cons_zero, List.set_cons_succ]
  refine wpAnyH_take (i := 17) (oi := ⟨some 33, .move (.tmp 32), 4, "law.go:49", #[⟨16, .data⟩, ⟨9, .chain⟩], none⟩) (v := .bool false) rfl (by kernel_rfl) (by kernel_rfl) (by kernel_rfl) (fun _ _ _ h => h) (Or.inl ⟨by rfl, fun w hSw => by go_simp⟩) (by assumption) ?_
  try simp only [Act.put, List.setIfInBounds_toArray, List.set_cons_zero, List.set_cons_succ]
  refine wpAnyH_take (i := 18) (oi := ⟨some 34, .move (.tmp 0), 26, "law.go:49", #[⟨17, .guard⟩], some (17, false)⟩) (v := .pointer (some ⟨p, 0, none⟩)) rfl (by kernel_rfl) (by kernel_rfl) (by kernel_rfl) (fun _ _ _ h => h) (Or.inl ⟨by rfl, fun w hSw => by go_simp⟩) (by assumption) ?_
  try simp only [Act.put, List.setIfInBounds_toArray, List.set_cons_zero, List.set_cons_succ]
  refine wpAnyH_take (i := 21) (oi := ⟨some 37, .fieldAddr 32 (.tmp 3) 0, 0, "law.go:49", #[⟨17, .guard⟩], some (17, false)⟩) (v := .pointer (some ⟨b3, 0, none⟩)) rfl (by kernel_rfl) (by kernel_rfl) (by kernel_rfl) (fun _ _ _ h => h) (Or.inl ⟨by rfl, fun w hSw => by go_simp⟩) (by assumption) ?_
  try simp only [Act.put, List.setIfInBounds_toArray, List.set_cons_zero, List.set_cons_succ]
  refine wpAnyH_take (i := 22) (oi := ⟨some 38, .load 30 (.tmp 37), 30, "law.go:49", #[⟨21, .data⟩, ⟨17, .guard⟩], some (17, false)⟩) (v := .slice LA ln lc) rfl (by kernel_rfl) (by kernel_rfl) (by kernel_rfl) (fun _ _ _ h => h) (Or.inl ⟨by rfl, fun w hSw => by obtain ⟨z0, z1, z2, -⟩ := cells3 hSw; go_simp⟩) (by assumption) ?_
  try simp only [Act.put, List.setIfInBounds_toArray, List.set_cons_zero, List.set_cons_succ]
  refine wpAnyH_take (i := 23) (oi := ⟨some 39, .call ⟨.builtin .len, #[.tmp 38], #[30]⟩, 3, "law.go:49", #[⟨22, .data⟩, ⟨17, .guard⟩], some (17, false)⟩) (v := .int .i64 (ln : Int)) rfl (by kernel_rfl) (by kernel_rfl) (by kernel_rfl) (fun _ _ _ h => h) (Or.inl ⟨by rfl, fun w hSw => by go_simp⟩) (by assumption) ?_
  try simp only [Act.put, List.setIfInBounds_toArray, List.set_cons_zero, List.set_cons_succ]
  refine wpAnyH_take (i := 24) (oi := ⟨some 40, .binOp .add 3 (.tmp 39) (.const (.int .i64 1)) 3, 3, "law.go:49", #[⟨23, .data⟩, ⟨17, .guard⟩], some (17, false)⟩) (v := .int .i64 ((ln + 1 : Nat) : Int)) rfl (by kernel_rfl) (by kernel_rfl) (by kernel_rfl) (fun _ _ _ h => h) (Or.inl ⟨by rfl, fun w hSw => by have hz := HW.out.2; go_simp⟩) (by assumption) ?_
  try simp only [Act.put, List.setIfInBounds_toArray, List.set_cons_zero, List.set_cons_succ]
  refine wpAnyH_ready (rs := [19]) (by kernel_rfl) (by simp) ?_
  refine AllReadyH.cons (o := ⟨some 35, .call ⟨.value (.func 19), #[.tmp 34], #[26]⟩, 42, "law.go:49", #[⟨18, .data⟩, ⟨17, .chain⟩, ⟨17, .guard⟩], some (17, false)⟩) rfl (fun K hK => ?_) AllReadyH.nil
  go_simp
  refine (HNX.out wd (H1.out.2.trans (HBW.out.mono H1.out.2.size))).mono ?_
  rintro e wd ⟨rfl, B2⟩
  have BW := HBW.out.trans (B2.mono HBW.out.size)
  have hq := (B2.block b3 (Array.getElem?_eq_some_iff.1 hHeld).1).trans hHeld
  clear HBW
  have HBW := Lib.hid BW
  clear BW B2
  refine hK.out _ _ (hq) (fun hHeld => ?_)
  clear hK K
  try simp only [Act.put, List.setIfInBounds_toArray, List.set_cons_zero, List.set_cons_succ]
  clear hq
  refine wpAnyH_take (i := 20) (oi := ⟨some 36, .convert 42 3 (.tmp 35), 3, "law.go:49", #[⟨19, .data⟩, ⟨17, .guard⟩], some (17, false)⟩) (v := .int .i64 ((ln + 1 : Nat) : Int)) rfl (by kernel_rfl) (by kernel_rfl) (by kernel_rfl) (fun _ _ _ h => h) (Or.inl ⟨by rfl, fun w hSw => by have hz := HW.out.2; go_simp⟩) (by assumption) ?_
  try simp only [Act.put, List.setIfInBounds_toArray, List.set_cons_zero, List.set_cons_succ]
  refine wpAnyH_take (i := 25) (oi := ⟨some 41, .binOp .neq 3 (.tmp 36) (.tmp 40) 3, 4, "law.go:49", #[⟨20, .data⟩, ⟨24, .data⟩, ⟨17, .guard⟩], some (17, false)⟩) (v := .bool false) rfl (by kernel_rfl) (by kernel_rfl) (by kernel_rfl) (fun _ _ _ h => h) (Or.inl ⟨by rfl, fun w hSw => by go_simp⟩) (by assumption) ?_
  try simp only [Act.put, List.setIfInBounds_toArray, List.set_cons_zero, List.set_cons_succ]
  refine wpAnyH_take (i := 26) (oi := ⟨some 42, .pick (.tmp 33) (.const (.bool true)) (.tmp 41), 4, "law.go:49", #[⟨17, .data⟩, ⟨25, .data⟩], none⟩) (v := .bool false) rfl (by kernel_rfl) (by kernel_rfl) (by kernel_rfl) (fun _ _ _ h => h) (Or.inl ⟨by rfl, fun w hSw => by go_simp⟩) (by assumption) ?_
  try simp only [Act.put, List.setIfInBounds_toArray, List.set_cons_zero, List.set_cons_succ]
  refine wpAnyH_take (i := 27) (oi := ⟨some 43, .move (.tmp 42), 4, "law.go:49", #[⟨26, .data⟩, ⟨19, .chain⟩], none⟩) (v := .bool false) rfl (by kernel_rfl) (by kernel_rfl) (by kernel_rfl) (fun _ _ _ h => h) (Or.inl ⟨by rfl, fun w hSw => by go_simp⟩) (by assumption) ?_
  try simp only [Act.put, List.setIfInBounds_toArray, List.set_cons_zero, List.set_cons_succ]
  refine wpAnyH_take (i := 28) (oi := ⟨some 44, .move (.tmp 0), 26, "law.go:49", #[⟨27, .guard⟩], some (27, false)⟩) (v := .pointer (some ⟨p, 0, none⟩)) rfl (by kernel_rfl) (by kernel_rfl) (by kernel_rfl) (fun _ _ _ h => h) (Or.inl ⟨by rfl, fun w hSw => by go_simp⟩) (by assumption) ?_
  try simp only [Act.put, List.setIfInBounds_toArray, List.set_cons_zero, List.set_cons_succ]
  refine wpAnyH_take (i := 32) (oi := ⟨some 48, .fieldAddr 32 (.tmp 3) 1, 0, "law.go:49", #[⟨27, .guard⟩], some (27, false)⟩) (v := .pointer (some ⟨b3, 1, none⟩)) rfl (by kernel_rfl) (by kernel_rfl) (by kernel_rfl) (fun _ _ _ h => h) (Or.inl ⟨by rfl, fun w hSw => by go_simp⟩) (by assumption) ?_
  try simp only [Act.put, List.setIfInBounds_toArray, List.set_cons_zero, List.set_cons_succ]
  refine wpAnyH_take (i := 33) (oi := ⟨some 49, .load 3 (.tmp 48), 3, "law.go:49", #[⟨32, .data⟩, ⟨27, .guard⟩], some (27, false)⟩) (v := .int .i64 (u : Int)) rfl (by kernel_rfl) (by kernel_rfl) (by kernel_rfl) (fun _ _ _ h => h) (Or.inl ⟨by rfl, fun w hSw => by obtain ⟨z0, z1, z2, -⟩ := cells3 hSw; go_simp⟩) (by assumption) ?_
  try simp only [Act.put, List.setIfInBounds_toArray, List.set_cons_zero, List.set_cons_succ]
  refine wpAnyH_ready (rs := [29]) (by kernel_rfl) (by simp) ?_
  refine AllReadyH.cons (o := ⟨some 45, .call ⟨.value (.func 20), #[.tmp 44], #[26]⟩, 45, "law.go:49", #[⟨28, .data⟩, ⟨27, .chain⟩, ⟨27, .guard⟩], some (27, false)⟩) rfl (fun K hK => ?_) AllReadyH.nil
  go_simp
  refine (HHD.out wd (H1.out.2.trans (HBW.out.mono H1.out.2.size))).mono ?_
  rintro e wd ⟨rfl, B2⟩
  have BW := HBW.out.trans (B2.mono HBW.out.size)
  have hq := (B2.block b3 (Array.getElem?_eq_some_iff.1 hHeld).1).trans hHeld
  clear HBW
  have HBW := Lib.hid BW
  clear BW B2
  refine hK.out _ _ (hq) (fun hHeld => ?_)
  clear hK K
  try simp only [Act.put, List.setIfInBounds_toArray, List.set_cons_zero, List.set_cons_succ]
  clear hq
  refine wpAnyH_take (i := 30) (oi := ⟨some 46, .field 45 (.tmp 45) 2, 42, "law.go:49", #[⟨29, .data⟩, ⟨27, .guard⟩], some (27, false)⟩) (v := .int .u64 (u : Int)) rfl (by kernel_rfl) (by kernel_rfl) (by kernel_rfl) (fun _ _ _ h => h) (Or.inl ⟨by rfl, fun w hSw => by have hz := HFD.out; go_simp⟩) (by assumption) ?_
  try simp only [Act.put, List.setIfInBounds_toArray, List.set_cons_zero, List.set_cons_succ]
  refine wpAnyH_take (i := 31) (oi := ⟨some 47, .convert 42 3 (.tmp 46), 3, "law.go:49", #[⟨30, .data⟩, ⟨27, .guard⟩], some (27, false)⟩) (v := .int .i64 (u : Int)) rfl (by kernel_rfl) (by kernel_rfl) (by kernel_rfl) (fun _ _ _ h => h) (Or.inl ⟨by rfl, fun w hSw => by have hz := HLT.out.2.2; go_simp⟩) (by assumption) ?_
  try simp only [Act.put, List.setIfInBounds_toArray, List.set_cons_zero, List.set_cons_succ]
  refine wpAnyH_take (i := 34) (oi := ⟨some 50, .binOp .neq 3 (.tmp 47) (.tmp 49) 3, 4, "law.go:49", #[⟨31, .data⟩, ⟨33, .data⟩, ⟨27, .guard⟩], some (27, false)⟩) (v := .bool false) rfl (by kernel_rfl) (by kernel_rfl) (by kernel_rfl) (fun _ _ _ h => h) (Or.inl ⟨by rfl, fun w hSw => by go_simp⟩) (by assumption) ?_
  try simp only [Act.put, List.setIfInBounds_toArray, List.set_cons_zero, List.set_cons_succ]
  refine wpAnyH_take (i := 35) (oi := ⟨some 51, .pick (.tmp 43) (.const (.bool true)) (.tmp 50), 4, "law.go:49", #[⟨27, .data⟩, ⟨34, .data⟩], none⟩) (v := .bool false) rfl (by kernel_rfl) (by kernel_rfl) (by kernel_rfl) (fun _ _ _ h => h) (Or.inl ⟨by rfl, fun w hSw => by go_simp⟩) (by assumption) ?_
  try simp only [Act.put, List.setIfInBounds_toArray, List.set_cons_zero, List.set_cons_succ]
  refine wpAnyH_done (by kernel_rfl) ?_ _
  try unfold NoPanic
  have HL := Lib.hid (H1.out.1.keep (kp_below HBW.out T))
  have HW1 := Lib.hid (H1.out.2.trans (HBW.out.mono H1.out.2.size))
  have HS0 : Hid (Below wd.heap.size wd wd) := Below.refl _ _
  clear hHeld
  go_wp2
  go_loopw [7] (fun i wr => ∃ j : Nat, i = .int .i64 (j : Int) ∧ j ≤ rn ∧ Hid (Below wd.heap.size wd wr)) (fun i _ => rn - (intOf i).toNat)
  case atStart => exact ⟨0, rfl, Nat.zero_le _, HS0⟩
  case round =>
    clear HS0
    obtain ⟨j, rfl, hjn, HJ⟩ := hrel
    by_cases hj : j < rn
    · have hj' : (j : Int) < rn := by omega
      have hjr : j < c.recs.length := by rw [HRL.out]; exact hj
      have hjl : u + j < l.length := by rw [← HH.out.2.1]; have := HRN.out; omega
      obtain ⟨g, off, cap, A9, c9, hvv, -, -, IA⟩ := HL.out.at j hjr
      injection hvv with hv1 hv2 hv3
      subst hv1 hv3
      clear hv2
      obtain ⟨x, hx⟩ : ∃ x, x = c.recs[j] := ⟨_, rfl⟩
      rw [← hx] at IA
      obtain ⟨n, hn⟩ : ∃ n, n = (l[u + j]'hjl).toNat := ⟨_, rfl⟩
      have hxe : x.k.toNat = 107 + n % 3 ∧ x.p = byL n := by
        have e := congrArg (fun z => z[j]?) (HH.out.1.1.recs HH.out.1.2)
        simp only [List.getElem?_map, List.getElem?_eq_getElem hjr, List.getElem?_drop, List.getElem?_eq_getElem hjl, Option.map_some] at e
        injection e with e
        unfold itR rc at e
        rw [← hx, ← hn] at e
        injection e with e1 e2
        exact ⟨e1, e2⟩
      have hn8 : n < 256 := by rw [hn]; exact (l[u + j]'hjl).toNat_lt
      obtain ⟨kk, hkk⟩ : ∃ k, k = x.k.toNat := ⟨_, rfl⟩
      obtain ⟨r3, hr3⟩ : ∃ r, r = n % 3 := ⟨_, rfl⟩
      obtain ⟨n9, hn9⟩ : ∃ m, m = x.p.length := ⟨_, rfl⟩
      obtain ⟨i0, i1, -, -, -, pa⟩ := IA
      rw [← hkk] at i0
      rw [← hn9] at i1
      have hgl := block_lt_of_cell i0
      have HIT : Hid (∀ y, Below wr.heap.size wr y → y.cell? ⟨g, off + j * 4, none⟩ = some (.int .u8 (kk : Int)) ∧ y.cell? ⟨g, off + j * 4 + 1, none⟩ = some (.slice A9 n9 c9)) := fun y hy => by
        have B := HJ.out.trans (hy.mono HJ.out.size)
        exact ⟨(World.cell?_of_block (a := ⟨g, off + j * 4, none⟩) (B.block g hgl)).trans i0, (World.cell?_of_block (a := ⟨g, off + j * 4 + 1, none⟩) (B.block g hgl)).trans i1⟩
      have HCV : Hid (∀ y, Below wr.heap.size wr y → (convert 30 9 (.slice A9 n9 c9)).run Tryz.prog y = .ok (.string (str (byL n))) y) := fun y hy => by
        have B := HJ.out.trans (hy.mono HJ.out.size)
        have e := Coin.conv_any (pa.below B).rd n9 c9 hn9
        rw [hxe.2] at e
        exact e
      have HR3 : Hid ((n : Int).tmod 3 = (r3 : Int) ∧ IntKind.u8.wrap (107 + (r3 : Int)) = (kk : Int)) := ⟨by rw [hr3, Int.tmod_eq_emod_of_nonneg (by omega)]; all_goals omega, by rw [IntKind.wrap_u8]; have := hxe.1; omega⟩
      have HN8 := Lib.hid hn8
      have Bw := HH.out.2.2.2.1.trans ((HW1.out.trans (HJ.out.mono HW1.out.size)).mono HH.out.2.2.2.1.size)
      obtain ⟨ad, rfl, hadl, hadc⟩ := HH.out.2.2.1 (by omega)
      have yb : wr.cell? (ad.add (u + j)) = some (.int .u8 (n : Int)) := by
        have e : wr.cell? (ad.add (u + j)) = w.cell? (ad.add (u + j)) := World.cell?_of_block (a := ad.add (u + j)) (by rw [Coin.block_add]; exact Bw.block _ hadl)
        rw [e, hadc (u + j) hjl, hn]
        rfl
      have r3' := ((HW1.out.trans (HJ.out.mono HW1.out.size)).block b3 HB3.out.2).trans HB3.out.1
      obtain ⟨y0, y1, y2, -⟩ := cells3 r3'
      have hw1 : IntKind.i64.wrap ((j : Int) + 1) = ((j + 1 : Nat) : Int) := by rw [IntKind.wrap_i64]; have := HH.out.2.2.2.2; have := HRN.out; omega
      have hw0 : IntKind.i64.wrap ((u : Int) + (j : Int)) = ((u + j : Nat) : Int) := by rw [IntKind.wrap_i64]; have := HH.out.2.2.2.2; have := HRN.out; omega
      have hju : ((u + j : Nat) : Int) < (ln : Int) := by have := HRN.out; omega
      have hju2 : u + j < ln := by have := HRN.out; omega
      have HJJ := Lib.hid (And.intro hj hw1)
      clear hjr hjl hx hxe hn hn8 hkk hr3 hn9 i0 i1 pa hgl Bw hadl hadc r3' hj hjn hw1
      go_upto_region 8 with (fail)
      clear yb y0 y1 y2
      have HBW := Lib.hid ((Below.refl wr.heap.size wr).drew)
      refine wp_region_noPanic ?_
      refine wp_region_held_drew (S := fun y : World => Below wr.heap.size wr y) (by kernel_rfl) HBW.out (fun hHeld => ?_)
      generalize wr.drew = wd at *
      refine wpAnyH_take (i := 0) (oi := ⟨some 66, .move (.tmp 5), 58, "law.go:54", #[], none⟩) (v := .slice (some ⟨g, off, none⟩) rn vc) rfl (by kernel_rfl) (by kernel_rfl) (by kernel_rfl) (fun _ _ _ h => h) (Or.inl ⟨by rfl, fun w hSw => by go_simp⟩) (by assumption) ?_
      try simp only [Act.put, List.setIfInBounds_toArray, List.set_cons_zero, List.set_cons_succ]
      refine wpAnyH_take (i := 1) (oi := ⟨some 67, .move (.tmp 7), 3, "law.go:54", #[], none⟩) (v := .int .i64 (j : Int)) rfl (by kernel_rfl) (by kernel_rfl) (by kernel_rfl) (fun _ _ _ h => h) (Or.inl ⟨by rfl, fun w hSw => by go_simp⟩) (by assumption) ?_
      try simp only [Act.put, List.setIfInBounds_toArray, List.set_cons_zero, List.set_cons_succ]
      refine wpAnyH_take (i := 2) (oi := ⟨some 68, .indexAddr 58 (.tmp 66) (.tmp 67), 0, "law.go:54", #[⟨0, .data⟩, ⟨1, .data⟩], none⟩) (v := .pointer (some ⟨g, off + j * 4, none⟩)) rfl (by kernel_rfl) (by kernel_rfl) (by kernel_rfl) (fun _ _ _ h => h) (Or.inl ⟨by rfl, fun w hSw => by go_simp⟩) (by assumption) ?_
      try simp only [Act.put, List.setIfInBounds_toArray, List.set_cons_zero, List.set_cons_succ]
      refine wpAnyH_take (i := 3) (oi := ⟨some 69, .fieldAddr 75 (.tmp 68) 0, 0, "law.go:54", #[⟨2, .data⟩], none⟩) (v := .pointer (some ⟨g, off + j * 4, none⟩)) rfl (by kernel_rfl) (by kernel_rfl) (by kernel_rfl) (fun _ _ _ h => h) (Or.inl ⟨by rfl, fun w hSw => by go_simp⟩) (by assumption) ?_
      try simp only [Act.put, List.setIfInBounds_toArray, List.set_cons_zero, List.set_cons_succ]
      refine wpAnyH_take (i := 4) (oi := ⟨some 70, .load 5 (.tmp 69), 5, "law.go:54", #[⟨3, .data⟩], none⟩) (v := .int .u8 (kk : Int)) rfl (by kernel_rfl) (by kernel_rfl) (by kernel_rfl) (fun _ _ _ h => h) (Or.inl ⟨by rfl, fun w hSw => by obtain ⟨z0, z1⟩ := HIT.out _ hSw; go_simp⟩) (by assumption) ?_
      try simp only [Act.put, List.setIfInBounds_toArray, List.set_cons_zero, List.set_cons_succ]
      refine wpAnyH_take (i := 5) (oi := ⟨some 71, .move (.tmp 8), 5, "law.go:54", #[], none⟩) (v := .int .u8 (n : Int)) rfl (by kernel_rfl) (by kernel_rfl) (by kernel_rfl) (fun _ _ _ h => h) (Or.inl ⟨by rfl, fun w hSw => by go_simp⟩) (by assumption) ?_
      try simp only [Act.put, List.setIfInBounds_toArray, List.set_cons_zero, List.set_cons_succ]
      refine wpAnyH_take (i := 6) (oi := ⟨some 72, .binOp .rem 5 (.tmp 71) (.const (.int .u8 3)) 5, 5, "law.go:54", #[⟨5, .data⟩], none⟩) (v := .int .u8 (r3 : Int)) rfl (by kernel_rfl) (by kernel_rfl) (by kernel_rfl) (fun _ _ _ h => h) (Or.inl ⟨by rfl, fun w hSw => by have hz := HR3.out.1; go_simp⟩) (by assumption) ?_
      try simp only [Act.put, List.setIfInBounds_toArray, List.set_cons_zero, List.set_cons_succ]
      refine wpAnyH_take (i := 7) (oi := ⟨some 73, .binOp .add 5 (.const (.int .u8 107)) (.tmp 72) 5, 5, "law.go:54", #[⟨6, .data⟩], none⟩) (v := .int .u8 (kk : Int)) rfl (by kernel_rfl) (by kernel_rfl) (by kernel_rfl) (fun _ _ _ h => h) (Or.inl ⟨by rfl, fun w hSw => by have hz := HR3.out.2; go_simp⟩) (by assumption) ?_
      try simp only [Act.put, List.setIfInBounds_toArray, List.set_cons_zero, List.set_cons_succ]
      refine wpAnyH_take (i := 8) (oi := ⟨some 74, .binOp .neq 5 (.tmp 70) (.tmp 73) 5, 4, "law.go:54", #[⟨4, .data⟩, ⟨7, .data⟩], none⟩) (v := .bool false) rfl (by kernel_rfl) (by kernel_rfl) (by kernel_rfl) (fun _ _ _ h => h) (Or.inl ⟨by rfl, fun w hSw => by go_simp⟩) (by assumption) ?_
      try simp only [Act.put, List.setIfInBounds_toArray, List.set_cons_zero, List.set_cons_succ]
      refine wpAnyH_take (i := 9) (oi := ⟨some 75, .move (.tmp 74), 4, "law.go:54", #[⟨8, .data⟩], none⟩) (v := .bool false) rfl (by kernel_rfl) (by kernel_rfl) (by kernel_rfl) (fun _ _ _ h => h) (Or.inl ⟨by rfl, fun w hSw => by go_simp⟩) (by assumption) ?_
      try simp only [Act.put, List.setIfInBounds_toArray, List.set_cons_zero, List.set_cons_succ]
      refine wpAnyH_take (i := 10) (oi := ⟨some 76, .move (.tmp 5), 58, "law.go:54", #[⟨9, .guard⟩], some (9, false)⟩) (v := .slice (some ⟨g, off, none⟩) rn vc) rfl (by kernel_rfl) (by kernel_rfl) (by kernel_rfl) (fun _ _ _ h => h) (Or.inl ⟨by rfl, fun w hSw => by go_simp⟩) (by assumption) ?_
      try simp only [Act.put, List.setIfInBounds_toArray, List.set_cons_zero, List.set_cons_succ]
      refine wpAnyH_take (i := 11) (oi := ⟨some 77, .move (.tmp 7), 3, "law.go:54", #[⟨9, .guard⟩], some (9, false)⟩) (v := .int .i64 (j : Int)) rfl (by kernel_rfl) (by kernel_rfl) (by kernel_rfl) (fun _ _ _ h => h) (Or.inl ⟨by rfl, fun w hSw => by go_simp⟩) (by assumption) ?_
      try simp only [Act.put, List.setIfInBounds_toArray, List.set_cons_zero, List.set_cons_succ]
      refine wpAnyH_take (i := 12) (oi := ⟨some 78, .indexAddr 58 (.tmp 76) (.tmp 77), 0, "law.go:54", #[⟨10, .data⟩, ⟨11, .data⟩, ⟨9, .guard⟩], some (9, false)⟩) (v := .pointer (some ⟨g, off + j * 4, none⟩)) rfl (by kernel_rfl) (by kernel_rfl) (by kernel_rfl) (fun _ _ _ h => h) (Or.inl ⟨by rfl, fun w hSw => by go_simp⟩) (by assumption) ?_
      try simp only [Act.put, List.setIfInBounds_toArray, List.set_cons_zero, List.set_cons_succ]
      refine wpAnyH_take (i := 13) (oi := ⟨some 79, .fieldAddr 75 (.tmp 78) 1, 0, "law.go:54", #[⟨12, .data⟩, ⟨9, .guard⟩], some (9, false)⟩) (v := .pointer (some ⟨g, off + j * 4 + 1, none⟩)) rfl (by kernel_rfl) (by kernel_rfl) (by kernel_rfl) (fun _ _ _ h => h) (Or.inl ⟨by rfl, fun w hSw => by go_simp⟩) (by assumption) ?_
      try simp only [Act.put, List.setIfInBounds_toArray, List.set_cons_zero, List.set_cons_succ]
      refine wpAnyH_take (i := 14) (oi := ⟨some 80, .load 30 (.tmp 79), 30, "law.go:54", #[⟨13, .data⟩, ⟨9, .guard⟩], some (9, false)⟩) (v := .slice A9 n9 c9) rfl (by kernel_rfl) (by kernel_rfl) (by kernel_rfl) (fun _ _ _ h => h) (Or.inl ⟨by rfl, fun w hSw => by obtain ⟨z0, z1⟩ := HIT.out _ hSw; go_simp⟩) (by assumption) ?_
      try simp only [Act.put, List.setIfInBounds_toArray, List.set_cons_zero, List.set_cons_succ]
      refine wpAnyH_take (i := 16) (oi := ⟨some 82, .move (.tmp 8), 5, "law.go:54", #[⟨9, .guard⟩], some (9, false)⟩) (v := .int .u8 (n : Int)) rfl (by kernel_rfl) (by kernel_rfl) (by kernel_rfl) (fun _ _ _ h => h) (Or.inl ⟨by rfl, fun w hSw => by go_simp⟩) (by assumption) ?_
      try simp only [Act.put, List.setIfInBounds_toArray, List.set_cons_zero, List.set_cons_succ]
      refine wpAnyH_take (i := 15) (oi := ⟨some 81, .convert 30 9 (.tmp 80), 9, "law.go:54", #[⟨14, .data⟩, ⟨9, .guard⟩], some (9, false)⟩) (v := .string (str (byL n))) rfl (by kernel_rfl) (by kernel_rfl) (by kernel_rfl) (fun _ _ _ h => h) (Or.inl ⟨by rfl, fun w hSw => by have hz := HCV.out _ hSw; go_simp⟩) (by assumption) ?_
      try simp only [Act.put, List.setIfInBounds_toArray, List.set_cons_zero, List.set_cons_succ]
      refine wpAnyH_ready (rs := [17]) (by kernel_rfl) (by simp) ?_
      refine AllReadyH.cons (o := ⟨some 83, .call ⟨.value (.func 22), #[.tmp 82], #[5]⟩, 30, "law.go:54", #[⟨16, .data⟩, ⟨9, .chain⟩, ⟨9, .guard⟩], some (9, false)⟩) rfl (fun K hK => ?_) AllReadyH.nil
      go_simp
      refine (by_any wd n HN8.out).mono ?_
      rintro e w4 ⟨g4, k4, rfl, hk4, R4, hg4, B4⟩
      have BW := hHeld.trans (B4.mono hHeld.size)
      have HR4 := Lib.hid (And.intro R4 hk4)
      clear R4 hk4 hg4 B4
      refine hK.out _ _ (BW) (fun hHeld => ?_)
      clear hK K
      try simp only [Act.put, List.setIfInBounds_toArray, List.set_cons_zero, List.set_cons_succ]
      clear BW
      refine wpAnyH_ready (rs := [18]) (by kernel_rfl) (by simp) ?_
      refine AllReadyH.cons (o := ⟨some 84, .convert 30 9 (.tmp 83), 9, "law.go:54", #[⟨17, .data⟩, ⟨9, .guard⟩], some (9, false)⟩) rfl (fun K hK => ?_) AllReadyH.nil
      have hcv2 : (convert 30 9 (.slice (some ⟨g4, 0, none⟩) k4 k4)).run Tryz.prog w4 = .ok (.string (str (byL n))) w4 := Coin.conv_any HR4.out.1.rd k4 k4 HR4.out.2
      go_simp
      clear hcv2
      refine hK.out _ _ (hHeld) (fun hHeld => ?_)
      clear hK K
      try simp only [Act.put, List.setIfInBounds_toArray, List.set_cons_zero, List.set_cons_succ]
      skip
      refine wpAnyH_take (i := 19) (oi := ⟨some 85, .binOp .neq 9 (.tmp 81) (.tmp 84) 9, 4, "law.go:54", #[⟨15, .data⟩, ⟨18, .data⟩, ⟨9, .guard⟩], some (9, false)⟩) (v := .bool false) rfl (by kernel_rfl) (by kernel_rfl) (by kernel_rfl) (fun _ _ _ h => h) (Or.inl ⟨by rfl, fun w hSw => by go_simp⟩) (by assumption) ?_
      try simp only [Act.put, List.setIfInBounds_toArray, List.set_cons_zero, List.set_cons_succ]
      refine wpAnyH_take (i := 20) (oi := ⟨some 86, .pick (.tmp 75) (.const (.bool true)) (.tmp 85), 4, "law.go:54", #[⟨9, .data⟩, ⟨19, .data⟩], none⟩) (v := .bool false) rfl (by kernel_rfl) (by kernel_rfl) (by kernel_rfl) (fun _ _ _ h => h) (Or.inl ⟨by rfl, fun w hSw => by go_simp⟩) (by assumption) ?_
      try simp only [Act.put, List.setIfInBounds_toArray, List.set_cons_zero, List.set_cons_succ]
      refine wpAnyH_done (by kernel_rfl) ?_ _
      try unfold NoPanic
      have HJ2 := Lib.hid (HJ.out.trans (hHeld.mono HJ.out.size))
      have hw1 := HJJ.out.2
      clear hHeld
      go_wp2
      go_roundw
      case rel => exact ⟨j + 1, rfl, HJJ.out.1, HJ2⟩
      case measure => have := HJJ.out.1; simp [intOf]; omega
    · have hj' : ¬ (j : Int) < rn := by omega
      have Bw1 := HW1.out.trans (HJ.out.mono HW1.out.size)
      have HBE := Lib.hid (HH.out.2.2.2.1.trans (Bw1.mono HH.out.2.2.2.1.size))
      have HC := Lib.hid (HBC.out wr Bw1)
      have r3' := (Bw1.block b3 HB3.out.2).trans HB3.out.1
      have HR3 := Lib.hid (And.intro r3' (Array.getElem?_eq_some_iff.1 r3').1)
      obtain ⟨y0, y1, y2, -⟩ := cells3 r3'
      clear r3' hj hjn Bw1
      by_cases hu0 : u = 0
      · have c36 := base_c0 wr T p q c HC.out (HH.out.1.1.b0.2 hu0)
        go_wp2_with (go_at_call 36; (with_reducible refine c36.mono ?_); rintro e w9 ⟨rfl, rfl⟩)
        go_ret
        exact ⟨rfl, HBE.out⟩
      · have c36 := base_c1 wr T p q c HC.out (fun e => hu0 (HH.out.1.1.b0.1 e)) (HBL.out hu0)
        have hbs := HH.out.1.1.bs hu0
        have hu9 : u < 100 := by have := HH.out.1.1.len; have := HH.out.1.1.le; omega
        obtain ⟨sn, hsn⟩ : ∃ s, s = str (dec u) := ⟨_, rfl⟩
        obtain ⟨sb, hsb⟩ : ∃ s, s = str c.base := ⟨_, rfl⟩
        have HAD : Hid ((⟨#[98, 97, 115, 101]⟩ : ByteArray) ++ sn = sb ∧ 4 + sn.size ≤ 9223372036854775807 ∧ IntKind.u64.wrap (u : Int) = (u : Int)) := ⟨by rw [hsn, hsb, hbs]; exact str_add [98, 97, 115, 101] (dec u), by
          rw [hsn]
          have e1 : (str (dec u)).size ≤ 2 := dec_len u hu9
          omega, by rw [IntKind.wrap_u64]; omega⟩
        have HNM : Hid (∀ y, Calls Tryz.prog 29 #[.int .u64 (u : Int)] y fun e w' => e = .returned (.string sn) ∧ Below y.heap.size y w') := fun y => by rw [hsn]; exact num_any y u hu9
        obtain ⟨n9, hn9⟩ : ∃ n, n = c.base.length := ⟨_, rfl⟩
        rw [← hn9] at c36
        have HN9 := Lib.hid (And.intro hn9 hsb)
        clear hbs hsn hsb hn9 hu9
        go_upto_region 13 with (go_at_call 36; (with_reducible refine c36.mono ?_); rintro e w9 ⟨A9, c9, rfl, O9, B9⟩; have H9 := Lib.hid (And.intro O9 B9); clear O9 B9 c36; have y1 := (World.cell?_of_block (a := ⟨b3, 1, none⟩) (H9.out.2.block b3 HR3.out.2)).trans y1)
        have HUP : Hid (∀ y, Below w9.heap.size w9 y → y.cell? ⟨b3, 1, none⟩ = some (.int .i64 (u : Int))) := fun y hy => (World.cell?_of_block (a := ⟨b3, 1, none⟩) (hy.block b3 (Nat.lt_of_lt_of_le HR3.out.2 H9.out.2.size))).trans y1
        have HCV : Hid (∀ y, Below w9.heap.size w9 y → (convert 30 9 (.slice A9 n9 c9)).run Tryz.prog y = .ok (.string sb) y) := fun y hy => by
          obtain ⟨A, c8, e, hrd, -, -⟩ := (H9.out.1.kept hy).form
          injection e with e1 e2 e3
          subst e1 e3
          rw [HN9.out.2]
          exact Coin.conv_any hrd n9 c9 HN9.out.1
        clear y0 y1 y2
        have HBW := Lib.hid ((Below.refl w9.heap.size w9).drew)
        refine wp_region_noPanic ?_
        refine wp_region_held_drew (S := fun y : World => Below w9.heap.size w9 y) (by kernel_rfl) HBW.out (fun hHeld => ?_)
        generalize w9.drew = wf at *
        refine wpAnyH_take (i := 0) (oi := ⟨some 102, .move (.tmp 10), 27, "law.go:62", #[], none⟩) (v := .int .i64 0) rfl (by kernel_rfl) (by kernel_rfl) (by kernel_rfl) (fun _ _ _ h => h) (Or.inl ⟨by rfl, fun w hSw => by go_simp⟩) (by assumption) ?_
        try simp only [Act.put, List.setIfInBounds_toArray, List.set_cons_zero, List.set_cons_succ]
        refine wpAnyH_take (i := 1) (oi := ⟨some 103, .binOp .eql 27 (.tmp 102) (.const (.int .i64 0)) 27, 4, "law.go:62", #[⟨0, .data⟩], none⟩) (v := .bool true) rfl (by kernel_rfl) (by kernel_rfl) (by kernel_rfl) (fun _ _ _ h => h) (Or.inl ⟨by rfl, fun w hSw => by go_simp⟩) (by assumption) ?_
        try simp only [Act.put, List.setIfInBounds_toArray, List.set_cons_zero, List.set_cons_succ]
        refine wpAnyH_take (i := 2) (oi := ⟨some 104, .move (.tmp 103), 4, "law.go:62", #[⟨1, .data⟩], none⟩) (v := .bool true) rfl (by kernel_rfl) (by kernel_rfl) (by kernel_rfl) (fun _ _ _ h => h) (Or.inl ⟨by rfl, fun w hSw => by go_simp⟩) (by assumption) ?_
        try simp only [Act.put, List.setIfInBounds_toArray, List.set_cons_zero, List.set_cons_succ]
        refine wpAnyH_take (i := 3) (oi := ⟨some 105, .move (.tmp 9), 30, "law.go:62", #[⟨2, .guard⟩], some (2, true)⟩) (v := .slice A9 n9 c9) rfl (by kernel_rfl) (by kernel_rfl) (by kernel_rfl) (fun _ _ _ h => h) (Or.inl ⟨by rfl, fun w hSw => by go_simp⟩) (by assumption) ?_
        try simp only [Act.put, List.setIfInBounds_toArray, List.set_cons_zero, List.set_cons_succ]
        refine wpAnyH_take (i := 5) (oi := ⟨some 107, .fieldAddr 32 (.tmp 3) 1, 0, "law.go:62", #[⟨2, .guard⟩], some (2, true)⟩) (v := .pointer (some ⟨b3, 1, none⟩)) rfl (by kernel_rfl) (by kernel_rfl) (by kernel_rfl) (fun _ _ _ h => h) (Or.inl ⟨by rfl, fun w hSw => by go_simp⟩) (by assumption) ?_
        try simp only [Act.put, List.setIfInBounds_toArray, List.set_cons_zero, List.set_cons_succ]
        refine wpAnyH_take (i := 6) (oi := ⟨some 108, .load 3 (.tmp 107), 3, "law.go:62", #[⟨5, .data⟩, ⟨2, .guard⟩], some (2, true)⟩) (v := .int .i64 (u : Int)) rfl (by kernel_rfl) (by kernel_rfl) (by kernel_rfl) (fun _ _ _ h => h) (Or.inl ⟨by rfl, fun w hSw => by have z1 := HUP.out _ hSw; go_simp⟩) (by assumption) ?_
        try simp only [Act.put, List.setIfInBounds_toArray, List.set_cons_zero, List.set_cons_succ]
        refine wpAnyH_take (i := 7) (oi := ⟨some 109, .convert 3 42 (.tmp 108), 42, "law.go:62", #[⟨6, .data⟩, ⟨2, .guard⟩], some (2, true)⟩) (v := .int .u64 (u : Int)) rfl (by kernel_rfl) (by kernel_rfl) (by kernel_rfl) (fun _ _ _ h => h) (Or.inl ⟨by rfl, fun w hSw => by have hz := HAD.out.2.2; go_simp⟩) (by assumption) ?_
        try simp only [Act.put, List.setIfInBounds_toArray, List.set_cons_zero, List.set_cons_succ]
        refine wpAnyH_take (i := 4) (oi := ⟨some 106, .convert 30 9 (.tmp 105), 9, "law.go:62", #[⟨3, .data⟩, ⟨2, .guard⟩], some (2, true)⟩) (v := .string sb) rfl (by kernel_rfl) (by kernel_rfl) (by kernel_rfl) (fun _ _ _ h => h) (Or.inl ⟨by rfl, fun w hSw => by have hz := HCV.out _ hSw; go_simp⟩) (by assumption) ?_
        try simp only [Act.put, List.setIfInBounds_toArray, List.set_cons_zero, List.set_cons_succ]
        refine wpAnyH_ready (rs := [8]) (by kernel_rfl) (by simp) ?_
        refine AllReadyH.cons (o := ⟨some 110, .call ⟨.value (.func 29), #[.tmp 109], #[42]⟩, 9, "law.go:62", #[⟨7, .data⟩, ⟨2, .chain⟩, ⟨2, .guard⟩], some (2, true)⟩) rfl (fun K hK => ?_) AllReadyH.nil
        go_simp
        refine (HNM.out wf).mono ?_
        rintro e w4 ⟨rfl, B4⟩
        have BW := hHeld.trans (B4.mono hHeld.size)
        clear B4
        refine hK.out _ _ (BW) (fun hHeld => ?_)
        clear hK K
        try simp only [Act.put, List.setIfInBounds_toArray, List.set_cons_zero, List.set_cons_succ]
        clear BW
        refine wpAnyH_take (i := 9) (oi := ⟨some 111, .binOp .add 9 (.const (.string { data := #[98, 97, 115, 101] })) (.tmp 110) 9, 9, "law.go:62", #[⟨8, .data⟩, ⟨2, .guard⟩], some (2, true)⟩) (v := .string sb) rfl (by kernel_rfl) (by kernel_rfl) (by kernel_rfl) (fun _ _ _ h => h) (Or.inl ⟨by rfl, fun w hSw => by obtain ⟨ha, hs, -⟩ := HAD.out; go_simp⟩) (by assumption) ?_
        try simp only [Act.put, List.setIfInBounds_toArray, List.set_cons_zero, List.set_cons_succ]
        refine wpAnyH_take (i := 10) (oi := ⟨some 112, .binOp .eql 9 (.tmp 106) (.tmp 111) 9, 4, "law.go:62", #[⟨4, .data⟩, ⟨9, .data⟩, ⟨2, .guard⟩], some (2, true)⟩) (v := .bool true) rfl (by kernel_rfl) (by kernel_rfl) (by kernel_rfl) (fun _ _ _ h => h) (Or.inl ⟨by rfl, fun w hSw => by go_simp⟩) (by assumption) ?_
        try simp only [Act.put, List.setIfInBounds_toArray, List.set_cons_zero, List.set_cons_succ]
        refine wpAnyH_take (i := 11) (oi := ⟨some 113, .pick (.tmp 104) (.tmp 112) (.const (.bool false)), 4, "law.go:62", #[⟨2, .data⟩, ⟨10, .data⟩], none⟩) (v := .bool true) rfl (by kernel_rfl) (by kernel_rfl) (by kernel_rfl) (fun _ _ _ h => h) (Or.inl ⟨by rfl, fun w hSw => by go_simp⟩) (by assumption) ?_
        try simp only [Act.put, List.setIfInBounds_toArray, List.set_cons_zero, List.set_cons_succ]
        refine wpAnyH_take (i := 12) (oi := ⟨some 4, .assign (.tmp 113), 4, "law.go:62", #[⟨11, .data⟩, ⟨8, .chain⟩, ⟨0, .phase⟩, ⟨1, .phase⟩, ⟨2, .phase⟩, ⟨3, .phase⟩, ⟨4, .phase⟩, ⟨5, .phase⟩, ⟨6, .phase⟩, ⟨7, .phase⟩, ⟨8, .phase⟩, ⟨9, .phase⟩, ⟨10, .phase⟩, ⟨11, .phase⟩], none⟩) (v := .bool true) rfl (by kernel_rfl) (by kernel_rfl) (by kernel_rfl) (fun _ _ _ h => h) (Or.inl ⟨by rfl, fun w hSw => by go_simp⟩) (by assumption) ?_
        try simp only [Act.put, List.setIfInBounds_toArray, List.set_cons_zero, List.set_cons_succ]
        refine wpAnyH_done (by kernel_rfl) ?_ _
        try unfold NoPanic
        go_wp2
        go_ret
        exact ⟨rfl, HBE.out.trans ((H9.out.2.trans (hHeld.mono H9.out.2.size)).mono HBE.out.size)⟩
end Go.Proofs.YtdbhgkbmbbjpdaaGreatDoor.Chr
