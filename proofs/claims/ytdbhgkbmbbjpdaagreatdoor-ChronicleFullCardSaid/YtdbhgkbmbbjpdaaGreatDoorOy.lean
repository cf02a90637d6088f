/- A list of bytes that grows by one at a time, exactly; and a chronicle beside it. A chronicle stays, while a list of one byte grows beside it. The law on a full shelf: what it has in memory. -/
import Derived.Test.YtdbhgkbmbbjpdaaGreatDoorOv
import Derived.Laws.AppendOwn
namespace Go.Proofs.YtdbhgkbmbbjpdaaGreatDoor.Chr
open Go.ChangeShapes Go.WideShapes Go.ChangeAt Go.RowKit
open Shf (S str)
open Coin (Rd Row Own sz coin got Pur takeV endV CoinSaid)
open Frm (pack err size kind cnt body noItem itemV OneSaid)
set_option maxRecDepth 8000
set_option linter.unusedVariables false
open Shf (Tag Ext Rep M RdN get Fine nameOk act_now ages wo wi Mv)
theorem zero_cells (k : Nat) : (Builtin.zeroCells (Value.int .u8 0).cells k) = ((List.replicate k (0 : UInt8)).map Coin.b8).toArray := by
  apply Array.ext'
  unfold Builtin.zeroCells
  apply List.ext_getElem
  · simp [Value.cells]
  · intro i h1 h2
    have e : i % 1 = 0 := Nat.mod_one i
    simp [Value.cells, Coin.b8, e]
def OZ (w : World) (v : Value) (l : S) : Prop :=
  (v = .slice none 0 0 ∧ l = []) ∨ ∃ g k, v = .slice (some ⟨g, 0, none⟩) l.length (l.length + k) ∧ w.heap[g]? = some (.cells ((l ++ List.replicate k 0).map Coin.b8).toArray 5 (0, 0)) ∧ l.length + k ≤ maxLen
theorem OZ.nil (w : World) : OZ w (.slice none 0 0) [] := .inl ⟨rfl, rfl⟩
theorem OZ.keep {w w' : World} {v : Value} {l : S} (h : OZ w v l) (hk : ∀ g, v.ownBlock = some g → w'.heap[g]? = w.heap[g]?) : OZ w' v l := by
  rcases h with h | ⟨g, k, rfl, h1, h2⟩
  · exact .inl h
  · exact .inr ⟨g, k, rfl, (hk g rfl).trans h1, h2⟩
theorem OZ.lt {w : World} {v : Value} {l : S} (h : OZ w v l) : ∀ g, v.ownBlock = some g → g < w.heap.size ∧ ∃ cur, w.heap[g]? = some (.cells cur 5 (0, 0)) := by
  rcases h with ⟨rfl, _⟩ | ⟨g, k, rfl, h1, h2⟩
  · intro g e; cases e
  · intro g' e
    simp only [Value.ownBlock, Option.some.injEq] at e
    subst e
    exact ⟨(Array.getElem?_eq_some_iff.1 h1).1, _, h1⟩
theorem OZ.rd {w : World} {v : Value} {l : S} (h : OZ w v l) : ∃ A c, v = .slice A l.length c ∧ Rd w w.heap.size A l := by
  rcases h with ⟨rfl, rfl⟩ | ⟨g, k, rfl, h1, h2⟩
  · exact ⟨none, 0, rfl, Rd.nil _ _ _⟩
  · refine ⟨_, _, rfl, fun h0 => ⟨_, rfl, (Array.getElem?_eq_some_iff.1 h1).1, fun j hj => ?_⟩⟩
    rw [Addr.add_lit, Nat.zero_add, cell_of_row w g j _ 5 (0, 0) h1]
    rw [List.getElem?_toArray, List.map_append, List.getElem?_append_left (by simpa using hj)]
    simp [hj]
def Turn (w w' : World) (l : S) (b : UInt8) : Prop :=
  Below w.heap.size w w' ∨ ∃ g k, w.heap[g]? = some (.cells ((l ++ List.replicate (k + 1) 0).map Coin.b8).toArray 5 (0, 0)) ∧ w'.heap[g]? = some (.cells ((l ++ [b] ++ List.replicate k 0).map Coin.b8).toArray 5 (0, 0)) ∧ w.grownBy w' (some g)
theorem appz_run {w : World} {v : Value} {l : S} (h : OZ w v l) (b : UInt8) (s : Nat) (hs : Row w s [b]) (hl : l.length ≤ 1000) :
    ∃ v' w', (Builtin.append_ #[30, 30] 30 #[v, .slice (some ⟨s, 0, none⟩) 1 1]).run Tryz.prog w = .ok v' w' ∧ OZ w' v' (l ++ [b]) ∧ Turn w w' l b ∧ (∀ g, v'.ownBlock = some g → v.ownBlock = some g ∨ w.heap.size ≤ g) ∧ w.heap.size ≤ w'.heap.size ∧ ∀ g, w'.heap[g]? ≠ w.heap[g]? → g < w.heap.size → v.ownBlock = some g := by
  obtain ⟨i0, hi, hz0, hz1, hz2⟩ := info_parts Coin.info5
  have hnews : ∀ j u, ([Coin.b8 b] : List Value)[j]? = some u → w.cell? ((⟨s, 0, none⟩ : Addr).add j) = some u := fun j u hj => by
    rw [Addr.add_lit, Nat.zero_add, cell_of_row w s j _ 5 (0, 0) hs]
    simpa using hj
  have hgr : ∀ k, (([Coin.b8 b] : List Value).toArray ++ Builtin.zeroCells (Value.int .u8 0).cells k) = (([b] ++ List.replicate k 0).map Coin.b8).toArray := fun k => by
    rw [zero_cells]; simp
  rcases h with ⟨rfl, rfl⟩ | ⟨g, k, rfl, h1, h2⟩
  · have hr := run_append_nil (P := Tryz.prog) w 30 30 5 i0 (.int .u8 0) Tryz.underlying30 hi hz0 ⟨s, 0, none⟩ 1 1 [Coin.b8 b] (by rw [hz1]; rfl) hnews (by decide) (by decide) (by rw [hz2]; decide)
    rw [hgr] at hr
    have hge := grownCap_ge w 1 0 5
    have hcm : grownCap w 1 0 5 ≤ maxLen := grownCap_le_maxLen w 1 0 5 (by decide)
    have B : Below w.heap.size w (w.drew.alloc (.cells (([b] ++ List.replicate (grownCap w 1 0 5 - 1) 0).map Coin.b8).toArray 5)) := (Below.refl _ _).drew.alloc (Nat.le_refl _) _
    refine ⟨_, _, hr, .inr ⟨w.heap.size, grownCap w 1 0 5 - 1, ?_, heap_alloc_new w.drew _, ?_⟩, .inl B, fun g e => .inr ?_, B.size, fun g hne hg => absurd (B.block g hg) hne⟩
    · show Value.slice _ 1 _ = .slice _ 1 (1 + (grownCap w 1 0 5 - 1))
      congr 1; omega
    · show 1 + _ ≤ _; omega
    · simp only [Value.ownBlock, Option.some.injEq] at e; omega
  · by_cases hk : k = 0
    · subst hk
      have hr := run_append_grow (P := Tryz.prog) w 30 30 5 i0 (.int .u8 0) Tryz.underlying30 hi hz0 ⟨g, 0, none⟩ l.length (l.length + 0) (l.map Coin.b8) (by rw [hz1]; simp) (fun j v hj => by
        rw [Addr.add_lit, Nat.zero_add, cell_of_row w g j _ 5 (0, 0) h1]
        simpa using hj) ⟨s, 0, none⟩ 1 1 [Coin.b8 b] (by rw [hz1]; rfl) hnews (by omega) (by omega) (by
          rw [hz2]
          have := nextslicecap_le (need := l.length + 1) (old := l.length + 0) (by omega)
          omega)
      have e : ∀ k, ((l.map Coin.b8).toArray ++ ([Coin.b8 b] : List Value).toArray ++ Builtin.zeroCells (Value.int .u8 0).cells k) = ((l ++ [b] ++ List.replicate k 0).map Coin.b8).toArray := fun k => by
        rw [zero_cells]; simp
      rw [e] at hr
      have hge := grownCap_ge w (l.length + 1) (l.length + 0) 5
      have hcm : grownCap w (l.length + 1) (l.length + 0) 5 ≤ maxLen := grownCap_le_maxLen w (l.length + 1) (l.length + 0) 5 (by unfold maxLen; omega)
      have B : Below w.heap.size w (w.drew.alloc (.cells ((l ++ [b] ++ List.replicate (grownCap w (l.length + 1) (l.length + 0) 5 - (l.length + 1)) 0).map Coin.b8).toArray 5)) := (Below.refl _ _).drew.alloc (Nat.le_refl _) _
      refine ⟨_, _, hr, .inr ⟨w.heap.size, grownCap w (l.length + 1) (l.length + 0) 5 - (l.length + 1), ?_, heap_alloc_new w.drew _, ?_⟩, .inl B, fun g e => .inr ?_, B.size, fun g hne hg => absurd (B.block g hg) hne⟩
      · rw [List.length_append, List.length_singleton]
        congr 1; omega
      · rw [List.length_append, List.length_singleton]; omega
      · simp only [Value.ownBlock, Option.some.injEq] at e; omega
    · obtain ⟨k', rfl⟩ : ∃ k', k = k' + 1 := ⟨k - 1, by omega⟩
      have hr := run_append_room (P := Tryz.prog) w 30 30 5 i0 Tryz.underlying30 hi g l.length (l.length + (k' + 1)) _ h1 ⟨s, 0, none⟩ 1 1 [Coin.b8 b] (by rw [hz1]; rfl) hnews (Coin.one_b8 [b]) (by omega) (by rw [hz1]; simp)
      have e : (((l ++ List.replicate (k' + 1) 0).map Coin.b8).toArray.toList.take (l.length * i0.size) ++ [Coin.b8 b] ++ ((l ++ List.replicate (k' + 1) 0).map Coin.b8).toArray.toList.drop (l.length * i0.size + [Coin.b8 b].length)).toArray = ((l ++ [b] ++ List.replicate k' 0).map Coin.b8).toArray := by
        rw [hz1]
        congr 1
        simp [List.replicate_succ, List.drop_append]
      rw [e] at hr
      have hh := setRow_heap w g _ ((l ++ [b] ++ List.replicate k' 0).map Coin.b8).toArray 5 (0, 0) h1
      refine ⟨_, _, hr, .inr ⟨g, k', ?_, hh, ?_⟩, .inr ⟨g, k', h1, hh, ⟨rfl, rfl, rfl, by simp, fun j _ hne => setRow_other w g j _ (fun e => hne (by rw [e]))⟩⟩, fun g' e => .inl ?_, by simp, fun j hne _ => ?_⟩
      · rw [List.length_append, List.length_singleton]
        congr 1; omega
      · rw [List.length_append, List.length_singleton]; omega
      · exact e
      · by_cases hj : j = g
        · rw [hj]; rfl
        · exact absurd (setRow_other w g j _ hj) hne
variable {lo : Nat}
theorem byL_get (n j : Nat) (hj : j < (byL n).length) : j < n % 17 ∧ (byL n)[j] = UInt8.ofNat (n + j) := by
  have h : j < n % 17 := by unfold byL at hj; rw [byJ_len] at hj; exact hj
  refine ⟨h, ?_⟩
  simp [byL, byJ, h]
theorem by_list {nb : UInt8} {n k o : Nat} (h : ∀ j (hj : j < (byL nb.toNat).length), ((List.replicate n nb ++ List.replicate (k + 1) 0).map Coin.b8)[o + j]? = some (Coin.b8 (byL nb.toNat)[j])) :
    ∀ j (hj : j < (byL nb.toNat).length), ((List.replicate n nb ++ [nb] ++ List.replicate k 0).map Coin.b8)[o + j]? = some (Coin.b8 (byL nb.toNat)[j]) := by
  intro j hj
  have hb := nb.toNat_lt
  have get : ∀ i, i < n → ((List.replicate n nb ++ List.replicate (k + 1) 0).map Coin.b8)[i]? = some (Coin.b8 nb) := fun i hi => by
    rw [List.getElem?_map, List.getElem?_append_left (by simpa using hi)]
    simp [hi]
  have inj : ∀ a b : UInt8, Coin.b8 a = Coin.b8 b → a.toNat = b.toNat := fun a b e => by
    unfold Coin.b8 at e
    injection e with _ e
    omega
  by_cases he : o + j = n
  · exfalso
    have h1 := h j hj
    rw [he, List.getElem?_map, List.getElem?_append_right (by simp)] at h1
    simp only [List.length_replicate, Nat.sub_self, List.replicate_succ, List.getElem?_cons_zero, Option.map_some, Option.some.injEq] at h1
    obtain ⟨hk, e1⟩ := byL_get nb.toNat j hj
    rw [e1] at h1
    have h2 := inj _ _ h1
    simp at h2
    have h3 : j ≠ 0 := fun h0 => by subst h0; omega
    have hj' : j - 1 < (byL nb.toNat).length := by omega
    have h4 := h (j - 1) hj'
    rw [get (o + (j - 1)) (by omega), (byL_get nb.toNat (j - 1) hj').2, Option.some.injEq] at h4
    have h5 := inj _ _ h4
    simp at h5
    omega
  · rw [← h j hj]
    rcases Nat.lt_or_ge (o + j) n with hlt | hge
    · rw [get _ hlt, List.append_assoc, List.getElem?_map, List.getElem?_append_left (by simpa using hlt)]
      simp [hlt]
    · rw [List.append_assoc, List.getElem?_map, List.getElem?_map, List.getElem?_append_right (l₁ := List.replicate n nb) (by simpa using hge), List.getElem?_append_right (l₁ := List.replicate n nb) (by simpa using hge)]
      congr 1
      obtain ⟨t, ht⟩ : ∃ t, o + j - n = t + 1 := ⟨o + j - n - 1, by omega⟩
      simp only [List.length_replicate, ht, List.singleton_append, List.replicate_succ, List.getElem?_cons_succ]
theorem PAt.turn {w w' : World} {T : Nat → Tag} {A : Option Addr} {c n : Nat} {nb : UInt8} {p : S} (h : PAt w T A c p) (hp : p = byL nb.toNat) (ht : Turn w w' (List.replicate n nb) nb) : PAt w' T A c p := by
  rcases ht with B | ⟨g, k, e1, e2, G⟩
  · exact h.keep (kp_below B T)
  · obtain ⟨h1, h2, h3⟩ := h
    refine ⟨h1, h2, fun h0 => ?_⟩
    obtain ⟨g0, o, cur, e, k1, k2, k3⟩ := h3 h0
    by_cases hg : g0 = g
    · subst hg
      rw [e1] at k1
      injection k1 with k1
      injection k1 with k1
      subst hp
      refine ⟨g0, o, _, e, e2, k2, fun j hj => ?_⟩
      have h := by_list (n := n) (k := k) (o := o) (nb := nb) (fun j hj => by have := k3 j hj; rw [← k1] at this; simpa using this) j hj
      simpa using h
    · exact ⟨g0, o, cur, e, (G.block g0 (Array.getElem?_eq_some_iff.1 k1).1 (fun e => hg (by injection e))).trans k1, k2, k3⟩
theorem Turn.kept {w w' : World} {l : S} {b : UInt8} (h : Turn w w' l b) (X : Nat) (hX : X < w.heap.size) (h5 : NotTy w X 5) : w'.heap[X]? = w.heap[X]? := by
  rcases h with B | ⟨g, k, e1, e2, G⟩
  · exact B.block X hX
  · exact G.block X hX (fun e => by injection e with e; subst e; exact h5 _ e1)
theorem LAt.turn {w w' : World} {T : Nat → Tag} {v : Value} {its : List ItD} {gl : Option Nat} {n : Nat} {nb : UInt8} (h : LAt w T v its gl) (hp : ∀ x ∈ its, x.p = byL nb.toNat) (ht : Turn w w' (List.replicate n nb) nb) : LAt w' T v its gl := by
  obtain ⟨ds, h1, h2, h3, h4⟩ := h
  exact ⟨ds, h1, h2.keep fun g e => by
    obtain ⟨cur, hc⟩ := (h2.lt g e).2
    exact ht.kept g (h2.lt g e).1 (notTy hc (by decide)), h3, fun x hx => (h4 x hx).turn (hp x.1 (by rw [← h1]; exact List.mem_map.2 ⟨x, hx, rfl⟩)) ht⟩
theorem VsAt.turn {w w' : World} {T : Nat → Tag} {v : Value} {vols : List VolD} {gv : Option Nat} {n : Nat} {nb : UInt8} (h : VsAt lo w T v vols gv) (hp : ∀ d ∈ vols, ∀ x ∈ d.its, x.p = byL nb.toNat) (ht : Turn w w' (List.replicate n nb) nb) : VsAt lo w' T v vols gv := by
  obtain ⟨vs, h1, h2, h3, h4, h6⟩ := h
  exact ⟨vs, h1, h2.keep fun g e => by
    obtain ⟨cur, hc⟩ := (h2.lt g e).2
    exact ht.kept g (h2.lt g e).1 (notTy hc (by decide)), h3, fun x hx => (h4 x hx).turn (hp x.1 (by rw [← h1]; exact List.mem_map.2 ⟨x, hx, rfl⟩)) ht, h6⟩
theorem CAt.turn {w w' : World} {T : Nat → Tag} {p q : Nat} {c : CD} {n : Nat} {nb : UInt8} (h : CAt lo w T p q c) (hb : c.base = []) (hp : ∀ d ∈ c.vols, ∀ x ∈ d.its, x.p = byL nb.toNat) (ht : Turn w w' (List.replicate n nb) nb) : CAt lo w' T p q c := by
  obtain ⟨bA, bc, vv, gv, h⟩ := h
  exact ⟨bA, bc, vv, gv, (ht.kept p (Array.getElem?_eq_some_iff.1 h.row).1 (notTy h.row (by decide))).trans h.row, h.tp, ⟨h.ba.1, h.ba.2.1, fun h0 => by rw [hb] at h0; simp at h0⟩, h.vs.turn hp ht, h.lp⟩
theorem CAt.box {w w' : World} {T : Nat → Tag} {p q X : Nat} {c : CD} {cur : Array Value} (h : CAt lo w T p q c) (hX : w.heap[X]? = some (.cells cur 32 (0, 0))) (G : w.grownBy w' (some X)) : CAt lo w' T p q c := by
  obtain ⟨bA, bc, vv, gv, h⟩ := h
  exact ⟨bA, bc, vv, gv, (G.block p (Array.getElem?_eq_some_iff.1 h.row).1 (fun e => by injection e with e; exact notTy h.row (s := 82) (t := 32) (by decide) _ (by rw [e]; exact hX))).trans h.row, h.tp, h.ba.grown G (notTy hX (by decide)), h.vs.grown G (notTy hX (by decide)) (notTy hX (by decide)) (notTy hX (by decide)), h.lp⟩
theorem FI.ps {c : CD} {n : Nat} {nb : UInt8} (h : FI c (List.replicate n nb)) : ∀ d ∈ c.vols, ∀ x ∈ d.its, x.p = byL nb.toNat := fun d hd x hx => by
  have h5 : (x.k.toNat, x.p) ∈ (c.vols.flatMap (·.its)).map (fun x => (x.k.toNat, x.p)) := List.mem_map.2 ⟨x, List.mem_flatMap.2 ⟨d, hd, hx⟩, rfl⟩
  rw [h.its] at h5
  obtain ⟨b, hb1, hb⟩ := List.mem_map.1 h5
  rw [List.eq_of_mem_replicate hb1] at hb
  injection hb with _ hb
  exact hb.symm
theorem Rep.turn {w w' : World} {T : Nat → Tag} {q : Nat} {m : M} {l : S} {b : UInt8} (R : Rep w T q m) (ht : Turn w w' l b) (hT : ∀ g cur, w.heap[g]? = some (.cells cur 5 (0, 0)) → w'.heap[g]? ≠ w.heap[g]? → T g = .none) : Rep w' T q m := by
  rcases ht with B | ⟨g, k, e1, e2, G⟩
  · exact R.below B
  · by_cases he : w'.heap[g]? = w.heap[g]?
    · exact R.far (P := fun _ => False) ⟨G.os, G.tape, G.output, G.size, fun i hi _ => by
        by_cases hi2 : i = g
        · rw [hi2]; exact he
        · exact G.block i hi (fun e => hi2 (by injection e))⟩ (fun _ _ h => h)
    · exact R.far (P := fun i => i = g) ⟨G.os, G.tape, G.output, G.size, fun i hi hne => G.block i hi (fun e => hne (by injection e))⟩ (fun i hi h => hi (by rw [h]; exact hT g _ e1 he))
structure Fr (w0 wr : World) (T : Nat → Tag) (bM : Nat) (vl : Value) (l : S) : Prop where
  bl : Below w0.heap.size w0 wr
  lt : ∀ b, b < w0.heap.size → T b = .none
  box : wr.heap[bM]? = some (.cells #[vl, .int .i64 0, .int .i64 0] 32 (0, 0))
  bt : T bM = .none
  bo : w0.heap.size ≤ bM
  oz : OZ wr vl l
  ot : ∀ g, vl.ownBlock = some g → T g = .none ∧ w0.heap.size ≤ g
theorem Fr.sz {w0 wr : World} {T : Nat → Tag} {bM : Nat} {vl : Value} {l : S} (h : Fr w0 wr T bM vl l) : bM < wr.heap.size := (Array.getElem?_eq_some_iff.1 h.box).1
theorem Fr.kq {w0 wr w' : World} {T T' : Nat → Tag} {bM : Nat} {vl : Value} {l : S} (h : Fr w0 wr T bM vl l) (K : Kq w0.heap.size wr T w' T') : Fr w0 w' T' bM vl l :=
  ⟨⟨K.os.trans h.bl.os, K.tape.trans h.bl.tape, K.output.trans h.bl.output, Nat.le_trans h.bl.size K.size, fun b hb => (K.low b (Nat.lt_of_lt_of_le hb h.bl.size) (h.lt b hb) hb).trans (h.bl.block b hb)⟩,
   fun b hb => K.tag b (Nat.lt_of_lt_of_le hb h.bl.size) (h.lt b hb),
   (K.block bM h.sz h.bt (notTy h.box (by decide)) (notTy h.box (by decide)) (notTy h.box (by decide))).trans h.box, K.tag bM h.sz h.bt, h.bo,
   h.oz.keep fun g hg => by
     obtain ⟨h1, cur, h2⟩ := h.oz.lt g hg
     exact K.block g h1 (h.ot g hg).1 (notTy h2 (by decide)) (notTy h2 (by decide)) (notTy h2 (by decide)),
   fun g hg => ⟨K.tag g (h.oz.lt g hg).1 (h.ot g hg).1, (h.ot g hg).2⟩⟩
theorem Fr.below {w0 wr w' : World} {T : Nat → Tag} {bM : Nat} {vl : Value} {l : S} (h : Fr w0 wr T bM vl l) (B : Below wr.heap.size wr w') : Fr w0 w' T bM vl l := h.kq (kq_kp (kp_below B T))
theorem Fr.put {w0 wr w' : World} {T : Nat → Tag} {bM q : Nat} {m : M} {vl vl' : Value} {l : S} {b : UInt8} (h : Fr w0 wr T bM vl l) (R : Rep wr T q m) (O : OZ w' vl' (l ++ [b])) (ht : Turn wr w' l b) (hb : ∀ g, vl'.ownBlock = some g → vl.ownBlock = some g ∨ wr.heap.size ≤ g)
    (hs : wr.heap.size ≤ w'.heap.size) (hlow : ∀ g, w'.heap[g]? ≠ wr.heap[g]? → g < wr.heap.size → vl.ownBlock = some g) : Fr w0 (w'.setCell ⟨bM, 0, none⟩ vl') T bM vl' (l ++ [b]) := by
  have hbox : w'.heap[bM]? = some (.cells #[vl, .int .i64 0, .int .i64 0] 32 (0, 0)) := (ht.kept bM h.sz (notTy h.box (by decide))).trans h.box
  have hset : ∀ k, k ≠ bM → (w'.setCell ⟨bM, 0, none⟩ vl').heap[k]? = w'.heap[k]? := fun k hk => heap_setCell_other w' ⟨bM, 0, none⟩ k vl' hk
  have hbel : Below w0.heap.size w0 w' := by
    have hso : w'.os = wr.os ∧ w'.tape = wr.tape ∧ w'.output = wr.output := by
      rcases ht with B | ⟨_, _, _, _, G⟩
      · exact ⟨B.os, B.tape, B.output⟩
      · exact ⟨G.os, G.tape, G.output⟩
    refine ⟨hso.1.trans h.bl.os, hso.2.1.trans h.bl.tape, hso.2.2.trans h.bl.output, Nat.le_trans h.bl.size hs, fun k hk => ?_⟩
    by_cases e : w'.heap[k]? = wr.heap[k]?
    · exact e.trans (h.bl.block k hk)
    · have := (h.ot k (hlow k e (Nat.lt_of_lt_of_le hk h.bl.size))).2; omega
  refine ⟨hbel.setCell (p := ⟨bM, 0, none⟩) h.bo vl', h.lt, heap_setCell_same w' bM 0 _ 32 vl' hbox, h.bt, h.bo, O.keep fun g hg => ?_, fun g hg => ?_⟩
  · refine hset g fun e => ?_
    obtain ⟨_, cur, hc⟩ := O.lt g hg
    rw [e] at hc
    exact notTy hbox (s := 32) (t := 5) (by decide) _ hc
  · rcases hb g hg with e | e
    · exact h.ot g e
    · exact ⟨rep_old R e, by have := h.bl.size; omega⟩
structure Lp (w0 wr : World) (T : Nat → Tag) (p q bM : Nat) (m : M) (c : CD) (vl : Value) (mo room j : Nat) (nb : UInt8) : Prop where
  fr : Fr w0 wr T bM vl (List.replicate j nb)
  R : Rep wr T q m
  C : CAt w0.heap.size wr T p q c
  cg : CG c m
  fi : FI c (List.replicate j nb)
  rm : m.room = (room : Int)
  dn : m.done ≤ 5 + 9 * j
  nm : Nms m (3 + 2 * j)
  mo : c.most = mo
theorem Lp.next {w0 wr w' : World} {T : Nat → Tag} {p q bM mo room j : Nat} {m : M} {c : CD} {vl vl' : Value} {nb : UInt8} (F : Fr w0 wr T bM vl (List.replicate j nb)) (R : Rep wr T q m) (C : CAt w0.heap.size wr T p q c) (cg : CG c m) (fi : FI c (List.replicate (j + 1) nb)) (rm : m.room = (room : Int)) (dn : m.done ≤ 5 + 9 * (j + 1)) (nm : Nms m (3 + 2 * (j + 1))) (hmo : c.most = mo)
    (O : OZ w' vl' (List.replicate j nb ++ [nb])) (ht : Turn wr w' (List.replicate j nb) nb) (hb : ∀ g, vl'.ownBlock = some g → vl.ownBlock = some g ∨ wr.heap.size ≤ g) (hs : wr.heap.size ≤ w'.heap.size) (hlow : ∀ g, w'.heap[g]? ≠ wr.heap[g]? → g < wr.heap.size → vl.ownBlock = some g) :
    Lp w0 (w'.setCell ⟨bM, 0, none⟩ vl') T p q bM m c vl' mo room (j + 1) nb := by
  have hrep : List.replicate j nb ++ [nb] = List.replicate (j + 1) nb := (List.replicate_succ' ..).symm
  have F' := F.put R O ht hb hs hlow
  rw [hrep] at F'
  have hbox : w'.heap[bM]? = some (.cells #[vl, .int .i64 0, .int .i64 0] 32 (0, 0)) := (ht.kept bM F.sz (notTy F.box (by decide))).trans F.box
  have G := Shf.grown_set w' bM 0 vl'
  have R' : Rep w' T q m := Rep.turn R ht (fun g cur h1 h2 => (F.ot g (hlow g h2 (Array.getElem?_eq_some_iff.1 h1).1)).1)
  exact ⟨F', R'.far (P := fun i => i = bM) ⟨G.os, G.tape, G.output, G.size, fun i hi hne => G.block i hi (fun e => hne (by injection e))⟩ (fun i hi h => hi (by rw [h]; exact F.bt)), (C.turn fi.hd.2.2.2.2 fi.ps ht).box hbox G, cg, fi, rm, dn, nm, hmo⟩
def TryS (w0 w' : World) (p q bM : Nat) (vl : Value) (mo room j : Nat) (nb : UInt8) (en : Nat) : Prop :=
  (en = 0 ∧ ∃ m' c' T', Fr w0 w' T' bM vl (List.replicate j nb) ∧ Rep w' T' q m' ∧ CAt w0.heap.size w' T' p q c' ∧ CG c' m' ∧ FI c' (List.replicate (j + 1) nb) ∧ m'.room = (room : Int) ∧ m'.done ≤ 5 + 9 * (j + 1) ∧ Nms m' (3 + 2 * (j + 1)) ∧ c'.most = mo) ∨
  (en = 3 ∧ ∃ m' c T', Fr w0 w' T' bM vl (List.replicate j nb) ∧ Rep w' T' q m' ∧ CAt w0.heap.size w' T' p q {c with full := true} ∧ CG c m' ∧ FI c (List.replicate j nb) ∧ m'.room = (room : Int) ∧ m'.done ≤ 5 + 9 * (j + 1) ∧ Nms m' (3 + 2 * (j + 1)) ∧ c.most = mo)
theorem try_any {w0 wr : World} {T : Nat → Tag} {p q bM : Nat} {m : M} {c : CD} {vl : Value} {mo room j : Nat} {nb : UInt8} (h : Lp w0 wr T p q bM m c vl mo room j nb) (hj : j < 80) (kk : UInt8) (hkk : kk.toNat = 107 + nb.toNat % 3) (w1 : World) (B : Below wr.heap.size wr w1) (g k : Nat) (hk : k = (byL nb.toNat).length) (hR : Row w1 g (byL nb.toNat)) (hg : wr.heap.size ≤ g) :
    Calls Tryz.prog 21 #[.pointer (some ⟨p, 0, none⟩), .int .u8 (kk.toNat : Int), .slice (some ⟨g, 0, none⟩) k k] w1 fun e w' => ∃ nx en : Nat, e = .returned (.tuple #[.int .u64 (nx : Int), .int .i64 (en : Int)]) ∧ TryS w0 w' p q bM vl mo room j nb en := by
  have R1 := h.R.below B
  have C1 := h.C.keep (kp_below B T)
  have F1 := h.fr.below B
  have hl : (List.replicate j nb).length = j := List.length_replicate
  have hnv := h.fi.nv
  rw [hl] at hnv
  have hhd := h.fi.hd
  have hnx := h.fi.next
  rw [hl] at hnx
  have hdn := h.dn
  have hbl := byL_len nb.toNat
  have hP : AAt w1 T (some ⟨g, 0, none⟩) k (byL nb.toNat) := by
    refine ⟨fun e => (by cases e), ⟨fun _ => ⟨_, rfl, fun i hi => ?_⟩, fun _ ad e => ?_⟩, fun _ ad e => ?_⟩
    · rw [Addr.add_lit, Nat.zero_add, cell_of_row w1 g i _ 5 (0, 0) hR]
      simp [hi]
      rfl
    · injection e with e
      rw [← e]
      exact ⟨rep_old h.R hg, (Array.getElem?_eq_some_iff.1 hR).1⟩
    · injection e with e
      rw [← e]
      exact ⟨notTy hR (by decide), notTy hR (by decide), notTy hR (by decide)⟩
  have c21 := append_try w1 T p q m c R1 C1 h.cg (by omega) (by omega) (h.fi.small h.cg) (by omega) (by omega) (nms_mono h.nm (by omega)) (by rw [h.rm]; omega) kk (some ⟨g, 0, none⟩) k k (byL nb.toNat) hk hP (by omega)
  refine c21.mono ?_
  rintro e w' (⟨m', c', T', rfl, g1, g2, g3, g4, g5, g6, g7, g8⟩ | ⟨m', T', rfl, g1, g3, g4, g5, g6, g7, g8⟩)
  · have hrep : List.replicate j nb ++ [nb] = List.replicate (j + 1) nb := (List.replicate_succ' ..).symm
    have hf := h.fi.more g2 nb hkk rfl (by rw [hl]; exact hj)
    rw [hrep] at hf
    have hms := g2.mr.same
    exact ⟨c.next, 0, rfl, .inl ⟨rfl, m', c', T', F1.kq g5, g3, g4, g1, hf, g6.trans h.rm, by omega, g8 _ h.nm |> fun x => nms_mono x (by omega), hms.2.2.2.2.2.trans h.mo⟩⟩
  · exact ⟨0, 3, rfl, .inr ⟨rfl, m', c, T', F1.kq g5, g3, g4, g1, h.fi, g6.trans h.rm, by omega, g8 _ h.nm |> fun x => nms_mono x (by omega), h.mo⟩⟩
theorem told_one {w0 w : World} {T : Nat → Tag} {p q bM j mo : Nat} {m : M} {c : CD} {nb : UInt8} {A : Option Addr} {n cap : Nat} (b : Bool) (F : Fr w0 w T bM (.slice A n cap) (List.replicate j nb)) (R : Rep w T q m) (C : CAt w0.heap.size w T p q {c with full := b, most := mo}) (cg : CG c m) (fi : FI c (List.replicate j nb)) (hj : j ≤ 80) :
    Calls Tryz.prog 13 #[.pointer (some ⟨p, 0, none⟩), .agg #[.slice A n cap, .int .i64 0, .int .i64 0]] w fun e w' => e = .returned (.bool true) ∧ Below w.heap.size w w' := by
  obtain ⟨A', c', e, hr⟩ := F.oz.rd
  injection e with e1 e2 e3
  subst e1
  have hl : (List.replicate j nb).length = j := List.length_replicate
  have hs := fi.small cg
  have hh := fi.has cg
  have hnv := fi.nv
  rw [hl] at hnv
  have hrs := fi.recs_small cg
  refine told0_any w T p q {c with full := b, most := mo} C (fun x hx => rep_old R hx) ⟨hs.1, hs.2, hs.3, hs.4⟩ (by show c.vols.length ≤ 1000; omega) (fun d hd => by have := (fi.its_small hd).1; omega) (fun d hd x hx => by have := (fi.its_small hd).2 x hx; omega) (fun k i d hk => hrs k i d hk) (List.replicate j nb) ⟨hh.hU, hh.hB, hh.next, hh.recs, hh.5⟩ A n cap e2 hr 0
end Go.Proofs.YtdbhgkbmbbjpdaaGreatDoor.Chr
