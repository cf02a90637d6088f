/- A record more, by what Append answers. Append, where there may be no room. What a record more is to what a chronicle tells. A chronicle with the records of a list of numbers, nothing folded. -/
import Derived.Test.YtdbhgkbmbbjpdaaGreatDoorOr
namespace Go.Proofs.YtdbhgkbmbbjpdaaGreatDoor.Chr
open Go.ChangeShapes Go.WideShapes Go.ChangeAt Go.RowKit
open Shf (S str)
open Coin (Rd Row Own sz coin got Pur takeV endV CoinSaid)
open Frm (pack err size kind cnt body noItem itemV OneSaid)
set_option maxRecDepth 8000
set_option linter.unusedVariables false
open Shf (Tag Ext Rep M RdN get Fine nameOk act_now ages wo wi Mv)
variable {lo : Nat}
theorem recJ_all (d : VolD) (h : 0 < d.first) : ∀ j, recJ 0 d j = d.its.take j
  | 0 => by simp [recJ]
  | j + 1 => by
    unfold recJ
    rw [recJ_all d h j, List.take_add_one, show decide (0 < d.first + j) = true from decide_eq_true (by omega)]
    cases d.its[j]? <;> rfl
theorem recK_all (vols : List VolD) (h : ∀ d ∈ vols, 0 < d.first) : ∀ k, recK 0 vols k = (vols.take k).flatMap (·.its)
  | 0 => by simp [recK]
  | k + 1 => by
    unfold recK
    rw [recK_all vols h k, List.take_add_one, List.flatMap_append]
    cases e : vols[k]? with
    | none => rfl
    | some d =>
      simp only [Option.toList_some, List.flatMap_cons, List.flatMap_nil, List.append_nil]
      rw [recJ_all d (h d (List.mem_of_getElem? e)), List.take_length]
theorem recs_all {c : CD} (hU : c.hU = 0) (h : ∀ d ∈ c.vols, 0 < d.first) : c.recs = c.vols.flatMap (·.its) := by
  unfold CD.recs
  rw [hU, recK_all _ h, List.take_length]
structure Mr (c : CD) (k : UInt8) (p : S) (c' : CD) : Prop where
  its : ∃ a b, c'.vols.flatMap (·.its) = c.vols.flatMap (·.its) ++ [⟨k, p, a, b⟩]
  same : c'.hF = c.hF ∧ c'.hB = c.hB ∧ c'.hU = c.hU ∧ c'.base = c.base ∧ c'.full = c.full ∧ c'.most = c.most
  len : c'.vols.length ≤ c.vols.length + 1
  next : c'.next = c.next + 1
  sz : ∀ B, 50 ≤ B → (∀ d ∈ c.vols, d.size ≤ B) → ∀ d ∈ c'.vols, d.size ≤ B + (pack k p).length
theorem More.mr {c c' : CD} {k : UInt8} {p : S} (h : More c k p c') : Mr c k p c' := by
  rcases h with ⟨l, d, hl, _, rfl⟩ | ⟨_, rfl⟩
  · unfold atlC
    rw [if_pos rfl]
    refine ⟨⟨d.size, d.size + (pack k p).length, ?_⟩, ⟨rfl, rfl, rfl, rfl, rfl, rfl⟩, ?_, ?_, fun B _ hB x hx => ?_⟩
    · rw [hl]
      simp only [List.flatMap_append, List.flatMap_cons, List.flatMap_nil, List.append_nil, List.append_assoc]
    · rw [hl]; simp
    · unfold CD.next
      rw [hl]
      simp only [List.getLast?_append, List.getLast?_singleton, Option.some_or, VolD.next, List.length_append, List.length_cons, List.length_nil]
      omega
    · have hx : x ∈ l ++ [_] := hx
      rcases List.mem_append.1 hx with e | e
      · have := hB x (by rw [hl]; exact List.mem_append_left _ e)
        omega
      · rw [List.mem_singleton.1 e]
        have := hB d (by rw [hl]; simp)
        show d.size + _ ≤ _
        omega
  · unfold atlC
    rw [if_pos rfl]
    refine ⟨⟨(newV c).size, (newV c).size + (pack k p).length, ?_⟩, ⟨rfl, rfl, rfl, rfl, rfl, rfl⟩, ?_, ?_, fun B h50 hB x hx => ?_⟩
    · simp only [List.flatMap_append, List.flatMap_cons, List.flatMap_nil, List.append_nil]
      rfl
    · simp
    · show (match (c.vols ++ [_]).getLast? with | none => _ | some d => d.next) = _
      simp only [List.getLast?_append, List.getLast?_singleton, Option.some_or, VolD.next, List.length_append, List.length_cons, List.length_nil]
      rfl
    · have hx : x ∈ c.vols ++ [_] := hx
      rcases List.mem_append.1 hx with e | e
      · have := hB x e
        omega
      · rw [List.mem_singleton.1 e]
        have := titleB_len2 c.nextNo c.next
        show (titleB c.nextNo c.next).length + _ ≤ _
        omega
structure FI (c : CD) (l : S) : Prop where
  hd : c.hF = 1 ∧ c.hB = 0 ∧ c.hU = 0 ∧ c.full = false ∧ c.base = []
  its : (c.vols.flatMap (·.its)).map (fun x => (x.k.toNat, x.p)) = l.map fun b => (107 + b.toNat % 3, byL b.toNat)
  nv : c.vols.length ≤ l.length
  next : c.next = l.length + 1
  sz : ∀ d ∈ c.vols, d.size ≤ 50 + 100 * l.length
  fs : ∀ d ∈ c.vols, d.first ≤ l.length + 1
  len : l.length ≤ 80
theorem FI.more {c c' : CD} {l : S} {k : UInt8} {p : S} (h : FI c l) (hm : More c k p c') (b : UInt8) (hk : k.toNat = 107 + b.toNat % 3) (hp : p = byL b.toNat) (hl : l.length < 80) : FI c' (l ++ [b]) := by
  obtain ⟨⟨a, e, hi⟩, ⟨s1, s2, s3, s4, s5, s6⟩, hlen, hnx, hsz⟩ := hm.mr
  have hll : (l ++ [b]).length = l.length + 1 := by simp
  refine ⟨⟨s1.trans h.hd.1, s2.trans h.hd.2.1, s3.trans h.hd.2.2.1, s5.trans h.hd.2.2.2.1, s4.trans h.hd.2.2.2.2⟩, ?_, ?_, ?_, fun d hd => ?_, fun d hd => ?_, by omega⟩
  · rw [hi, List.map_append, List.map_append, h.its, List.map_cons, List.map_nil, List.map_cons, List.map_nil, hk, hp]
  · have := h.nv; omega
  · rw [hnx, h.next, hll]
  · have h1 := hsz (50 + 100 * l.length) (by omega) h.sz d hd
    have h2 := byL_len b.toNat
    have h3 := Coin.sz_le p.length
    rw [Frm.length_pack] at h1
    rw [← hp] at h2
    omega
  · rw [hll]
    rcases hm with ⟨l0, d0, hl0, _, rfl⟩ | ⟨_, rfl⟩
    · unfold atlC at hd
      rw [if_pos rfl] at hd
      have hd : d ∈ l0 ++ [_] := hd
      rcases List.mem_append.1 hd with x | x
      · have := h.fs d (by rw [hl0]; exact List.mem_append_left _ x)
        omega
      · rw [List.mem_singleton.1 x]
        have := h.fs d0 (by rw [hl0]; simp)
        show d0.first ≤ _
        omega
    · unfold atlC at hd
      rw [if_pos rfl] at hd
      have hd : d ∈ c.vols ++ [_] := hd
      rcases List.mem_append.1 hd with x | x
      · have := h.fs d x
        omega
      · rw [List.mem_singleton.1 x]
        show c.next ≤ _
        rw [h.next]; omega
theorem its_le {vs : List VolD} {d : VolD} (h : d ∈ vs) : d.its.length ≤ (vs.flatMap (·.its)).length ∧ ∀ x ∈ d.its, x ∈ vs.flatMap (·.its) := by
  obtain ⟨a, b, rfl⟩ := List.append_of_mem h
  refine ⟨?_, fun x hx => List.mem_flatMap.2 ⟨d, h, hx⟩⟩
  simp only [List.flatMap_append, List.flatMap_cons, List.length_append]
  omega
theorem FI.its_len {c : CD} {l : S} (h : FI c l) : (c.vols.flatMap (·.its)).length = l.length := by
  have := congrArg List.length h.its
  simpa using this
theorem FI.its_small {c : CD} {l : S} (h : FI c l) {d : VolD} (hd : d ∈ c.vols) : d.its.length ≤ 80 ∧ ∀ x ∈ d.its, x.p.length ≤ 16 := by
  obtain ⟨h1, h2⟩ := its_le hd
  have h3 := h.its_len
  have h4 := h.len
  refine ⟨by omega, fun x hx => ?_⟩
  have h5 : (x.k.toNat, x.p) ∈ (c.vols.flatMap (·.its)).map (fun x => (x.k.toNat, x.p)) := List.mem_map.2 ⟨x, h2 x hx, rfl⟩
  rw [h.its] at h5
  obtain ⟨b, _, hb⟩ := List.mem_map.1 h5
  injection hb with _ hb
  rw [← hb]
  exact byL_len _
theorem FI.has {c : CD} {m : M} {l : S} (h : FI c l) (g : CG c m) : Has c l := by
  refine ⟨h.hd.2.2.1, h.hd.2.1, h.next, ?_, by have := h.len; omega⟩
  rw [recs_all h.hd.2.2.1 fun d hd => (g.vo d hd).2.2]
  exact h.its
theorem FI.small {c : CD} {m : M} {l : S} (h : FI c l) (g : CG c m) : c.Small := by
  have hl := h.len
  have hn := h.nv
  refine ⟨by rw [h.hd.1]; decide, by rw [h.hd.2.2.1]; decide, by omega, fun d hd => ⟨?_, ?_, ?_, ?_⟩⟩
  · obtain ⟨i, hi, rfl⟩ := List.getElem_of_mem hd
    rw [g.nos i _ (List.getElem?_eq_getElem hi), h.hd.1]
    omega
  · have := h.fs d hd; omega
  · have := (h.its_small hd).1; omega
  · have := h.sz d hd; omega
theorem FI.recs_small {c : CD} {m : M} {l : S} (h : FI c l) (g : CG c m) : ∀ k j d, c.vols[k]? = some d → (recK c.hU c.vols k ++ recJ c.hU d j).length ≤ 1000000 := by
  intro k j d hk
  have hl := h.len
  have hm := List.mem_of_getElem? hk
  rw [h.hd.2.2.1, recK_all _ (fun d hd => (g.vo d hd).2.2), recJ_all d (g.vo d hm).2.2, List.length_append, List.length_take]
  have h1 := (h.its_small hm).1
  have h2 : ((c.vols.take k).flatMap (·.its)).length ≤ (c.vols.flatMap (·.its)).length := by
    conv => rhs; rw [← List.take_append_drop k c.vols, List.flatMap_append, List.length_append]
    omega
  have h3 := h.its_len
  omega
end Go.Proofs.YtdbhgkbmbbjpdaaGreatDoor.Chr
