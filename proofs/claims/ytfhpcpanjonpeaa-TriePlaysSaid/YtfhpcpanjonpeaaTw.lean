/- A list without its j-th; pieces of a list of routes, appended at a step of a region that draws; addresses in memory. -/
import Derived.Test.YtfhpcpanjonpeaaTv
import Derived.Deep.RegionLaw
import Derived.Laws.AppendOwnNone
namespace Go.Proofs.Ytfhpcpanjonpeaa.Tri
open Pre
open Go.ChangeShapes Go.WideShapes Go.ChangeAt Go.RowKit

theorem split_at (ls : List R) {j : Nat} (hj : j < ls.length) : ls = ls.take j ++ ls[j] :: ls.drop (j + 1) := by
  rw [← List.drop_eq_getElem_cons hj, List.take_append_drop]
theorem Sm.drop {t : T} {ls : List R} (h : Sm t ls) {j X Y : Nat} (hj : j < ls.length) (e : ls[j].a = X ∧ ls[j].n = Y) : Sm (t.drop X Y).1 (ls.take j ++ ls.drop (j + 1)) := by
  have hs := split_at ls hj
  have hu := h.un
  have hm : ∀ y, y ∈ ls ↔ y ∈ ls.take j ∨ y = ls[j] ∨ y ∈ ls.drop (j + 1) := fun y => by
    have : y ∈ ls ↔ y ∈ ls.take j ++ ls[j] :: ls.drop (j + 1) := by rw [← hs]
    rw [this, List.mem_append, List.mem_cons]
  generalize ls[j] = z at hs hm e
  generalize ls.take j = A at *
  generalize ls.drop (j + 1) = B at *
  subst hs
  unfold Uniq at hu
  rw [List.pairwise_append, List.pairwise_cons] at hu
  obtain ⟨u1, ⟨u2, u3⟩, u4⟩ := hu
  refine ⟨drop_wf X Y h.wf, fun y => ?_, ?_⟩
  · rw [drop_mem X Y h.wf, h.eq, hm, List.mem_append]
    constructor
    · rintro ⟨m | rfl | m, ne⟩
      · exact .inl m
      · exact absurd e ne
      · exact .inr m
    · rintro (m | m)
      · exact ⟨.inl m, fun e' => u4 y m z (by simp) ⟨e'.1.trans e.1.symm, e'.2.trans e.2.symm⟩⟩
      · exact ⟨.inr (.inr m), fun e' => u2 y m ⟨e.1.trans e'.1.symm, e.2.trans e'.2.symm⟩⟩
  · exact List.pairwise_append.2 ⟨u1, u3, fun a ha b hb => u4 a ha b (List.mem_cons_of_mem _ hb)⟩
/-- The cells of routes that lie in memory, one behind the other. -/
theorem RtSl.cells {w : World} {A : Option Addr} {rs : List R} (h : RtSl w A rs) : ∀ ad, A = some ad → ∀ j u, (rs.flatMap fun r : R => r.cl.toList)[j]? = some u → w.cell? (ad.add j) = some u := by
  intro ad e j u hj
  have hjl : j < rs.length * 5 := by rw [← rflat_len]; exact (List.getElem?_eq_some_iff.1 hj).1
  have hk : j / 5 < rs.length := by omega
  obtain ⟨b, o, e', _, ha⟩ := h (j / 5) hk
  rw [e] at e'
  injection e' with e'
  subst e'
  have hadd : (⟨b, o, none⟩ : Addr).add j = ⟨b, o + j, none⟩ := by
    unfold Addr.add
    split
    · rename_i h; subst h; rfl
    · rfl
  have hd : j / 5 * 5 + j % 5 = j := by omega
  have hf := rflat_at rs (j / 5) (j % 5) hk (by omega)
  rw [hd] at hf
  rw [hadd, ← hj, hf]
  obtain ⟨k0, k1, k2, k3, k4⟩ := ha
  rcases (by omega : j % 5 = 0 ∨ j % 5 = 1 ∨ j % 5 = 2 ∨ j % 5 = 3 ∨ j % 5 = 4) with h5 | h5 | h5 | h5 | h5
  · rw [h5, show o + j = o + j / 5 * 5 by omega]; exact k0
  · rw [h5, show o + j = o + j / 5 * 5 + 1 by omega]; exact k1
  · rw [h5, show o + j = o + j / 5 * 5 + 2 by omega]; exact k2
  · rw [h5, show o + j = o + j / 5 * 5 + 3 by omega]; exact k3
  · rw [h5, show o + j = o + j / 5 * 5 + 4 by omega]; exact k4
theorem RtSl.take {w : World} {A : Option Addr} {rs : List R} (h : RtSl w A rs) (n : Nat) : RtSl w A (rs.take n) := fun k hk => by
  have hk' : k < rs.length := by simp at hk; omega
  obtain ⟨b, o, e, hlt, ha⟩ := h k hk'
  exact ⟨b, o, e, hlt, by rw [List.getElem_take]; exact ha⟩
theorem RtSl.drop {w : World} {A : Option Addr} {rs : List R} (h : RtSl w A rs) (n : Nat) : RtSl w (A.map (·.add (n * 5))) (rs.drop n) := fun k hk => by
  have hk' : n + k < rs.length := by simp at hk; omega
  obtain ⟨b, o, e, hlt, ha⟩ := h (n + k) hk'
  subst e
  have hadd : (⟨b, o, none⟩ : Addr).add (n * 5) = ⟨b, o + n * 5, none⟩ := by
    unfold Addr.add
    split
    · rename_i h; rw [h]; rfl
    · rfl
  refine ⟨b, o + n * 5, by rw [Option.map_some, hadd], hlt, ?_⟩
  rw [List.getElem_drop, show o + n * 5 + k * 5 = o + (n + k) * 5 by omega]
  exact ha
theorem upto_rt {A : Option Addr} (m c k : Nat) (hA : A = none → c = 0) (hc : m ≤ c) (hk : k ≤ m) (W : World) :
    (Instr.slice 29 (.slice A m c) none (some (.int .i64 (k : Int))) none).run Try.prog W = .ok (.slice A k c) W := by
  have h := run_slice_h (P := Try.prog) (w := W) 29 A m c un29 .i64 (k : Int) (by omega) (by omega)
  rw [h]
  rcases A with _ | ad
  · have h0 := hA rfl
    obtain rfl : k = 0 := by omega
    subst h0
    simp [go_sem, sliced]
  · simp [go_sem, sliced]
theorem from_rt {w : World} {A : Option Addr} {rs : List R} (h : RtSl w A rs) (m c k : Nat) (hm : m = rs.length) (hc : m ≤ c) (hA : A = none → c = 0) (hk : k ≤ m) :
    ∃ A', (∀ W, (Instr.slice 29 (.slice A m c) (some (.int .i64 (k : Int))) none none).run Try.prog W = .ok (.slice A' (m - k) (c - k)) W) ∧ RtSl w A' (rs.drop k) ∧ (A' = none → c - k = 0) := by
  refine ⟨if c = k then A else A.map (·.add (k * 5)), fun W => ?_, ?_, ?_⟩
  · have h := run_slice_l (P := Try.prog) (w := W) 29 A m c un29 .i64 (k : Int) (by omega) (by omega)
    rw [h]
    simp [go_sem, sliced]
  · by_cases e : c = k
    · have : rs.drop k = [] := List.drop_eq_nil_of_le (by omega)
      rw [this]
      exact fun j hj => by simp at hj
    · rw [if_neg e]; exact h.drop k
  · by_cases e : c = k
    · intro _; omega
    · rw [if_neg e]
      intro h'
      rcases A with _ | ad
      · have := hA rfl; omega
      · cases h'
/-- Routes appended to a slice of the call's own, at a step of a region that draws its order. -/
theorem step_rts {w : World} {ops : Array Oper} {o : Oper} {a : Act} {K : Act → World → Prop} {Q : Exit → Act → World → Prop} {E : Prop} (hg : o.guard = none) (s x : Operand)
    (hop : o.op = .call { callee := .builtin .append, args := #[s, x], argTypes := #[29, 29] }) (B : Nat) (v : Value) (ds es : List R) (A : Option Addr) (m c : Nat) (hs : a.eval s = v) (hx : a.eval x = .slice A m c) (hown : RtOwn w B v ds) (hm : m = es.length)
    (hA : A = none → c = 0) (hc : RtSl w A es) (hl : ds.length + es.length ≤ 100000) (hB : B ≤ w.heap.size)
    (hK : ∀ v' w', RtOwn w' B v' (ds ++ es) → w.grownBy w' v.ownBlock → (v'.ownBlock = v.ownBlock ∨ v'.ownBlock = some w.heap.size) → K (a.put o.dst v') w') : if Region.wanted o (yielded ops a.tmps) = true then Oper.wp Try.prog o a w K Q else E := by
  obtain ⟨i0, hi, hz0, hz1, hz2⟩ := info_parts info39
  have hw : Region.wanted o (yielded ops a.tmps) = true := by simp [Region.wanted, hg]
  rw [if_pos hw]
  subst hm
  cases A with
  | none =>
    have hn : es = [] := by
      rcases es with _ | ⟨e, es⟩
      · rfl
      · obtain ⟨b, o, e, _⟩ := hc 0 (by simp); cases e
    subst hn
    obtain rfl := hA rfl
    have hrun := run_append_owned_none (P := Try.prog) (w := w) B 29 o.type 39 i0 5 un29 hi v ds.length (ds.flatMap fun r : R => r.cl.toList) hown
    unfold Oper.wp
    simp [execOp, hop, resolve, invoke, builtin, hs, hx, hrun, Result.andThen]
    exact hK v w (by simpa using hown) (World.grownBy.refl w _) (.inl rfl)
  | some ad =>
    obtain ⟨v', w', hrun, r1, r2, _, r4⟩ := run_append_own_at (P := Try.prog) (w := w) B 29 o.type 39 i0 _ 5 24 un29 hi hz0 hz1 hz2 rfl (by decide) v ds.length (ds.flatMap fun r : R => r.cl.toList) hown ad es.length c (es.flatMap fun r : R => r.cl.toList) (rflat_len es) (hc.cells ad rfl) (rcl_one es) (by unfold maxLen; omega) (by omega) hB
    unfold Oper.wp
    simp [execOp, hop, resolve, invoke, builtin, hs, hx, hrun, Result.andThen]
    refine hK v' w' ?_ r2 r4
    unfold RtOwn
    rw [List.flatMap_append, List.length_append]
    exact r1
end Go.Proofs.Ytfhpcpanjonpeaa.Tri
