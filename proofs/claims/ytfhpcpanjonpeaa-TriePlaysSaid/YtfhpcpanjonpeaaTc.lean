/- A list replaced by another one; a prefix that is there or not; addresses in memory. -/
import Derived.Test.YtfhpcpanjonpeaaTw
import Derived.Test.YtfhpcpanjonpeaaTh
namespace Go.Proofs.Ytfhpcpanjonpeaa.Tri
open Pre
open Go.ChangeShapes Go.WideShapes Go.ChangeAt Go.RowKit

theorem RtOwn.fits {w : World} {B n c : Nat} {A : Option Addr} {rs : List R} (h : RtOwn w B (.slice A n c) rs) : n ≤ c ∧ (A = none → c = 0) := by
  rcases h.2 with ⟨e, _⟩ | ⟨g, cap, cur, e, _, _, hn, _⟩
  · cases e; exact ⟨Nat.le_refl _, fun _ => rfl⟩
  · simp only [Value.slice.injEq] at e
    obtain ⟨rfl, e2, rfl⟩ := e
    exact ⟨by omega, fun e => by cases e⟩
theorem RtOwn.lower {w : World} {B B' : Nat} {v : Value} {rs : List R} (h : RtOwn w B v rs) (hB : B' ≤ B) : RtOwn w B' v rs := by
  refine ⟨h.1, h.2.imp id fun ⟨g, cap, cur, hv, hg, rest⟩ => ⟨g, cap, cur, hv, Nat.le_trans hB hg, rest⟩⟩
/-- Another list stands in the list's place. -/
theorem UA.swap {wz wr w' : World} {g : Nat} {v v' : Value} {t : T} {ls ls' : List R} {bs : List Nat} (h : UA wz wr g v t ls bs) (B : Below wr.heap.size wr w') (O : RtOwn w' wr.heap.size v' ls') : UA wz w' g v' t ls' bs := by
  refine ⟨h.be.trans (B.mono h.be.size), h.tr.below B, h.hb, O.lower h.be.size, fun b hb e => ?_, h.ti⟩
  have h1 := (World.ownsRow.lt O b e).1
  have h2 := h.tr.ins b hb
  omega
theorem was_not {t : T} {ls : List R} {X Y : Nat} (h : Sm t ls) (hn : ∀ y ∈ ls, ¬(y.a = X ∧ y.n = Y)) : (t.drop X Y).2 = false := by
  cases hw : (t.drop X Y).2
  · rfl
  · exfalso
    have hd := drop_len t X Y hw
    have hl := len_le_of (list_ne h.wf) (l2 := (t.drop X Y).1.list) fun y hy => list_mem.2 ((drop_mem X Y h.wf y).2 ⟨list_mem.1 hy, hn y ((h.eq y).1 (list_mem.1 hy))⟩)
    omega
theorem was_yes {t : T} {ls : List R} {X Y j : Nat} (h : Sm t ls) (ht : t.Tight) (hj : j < ls.length) (e : ls[j].a = X ∧ ls[j].n = Y) : (t.drop X Y).2 = true := by
  cases hw : (t.drop X Y).2
  · exfalso
    have hd := drop_same t X Y ht hw
    have hm : t.Mem ls[j] := (h.eq _).2 (List.getElem_mem hj)
    rw [← hd] at hm
    exact ((drop_mem X Y h.wf _).1 hm).2 e
  · rfl
theorem get_not {t : T} {ls : List R} {X Y : Nat} (h : Sm t ls) (hn : ∀ y ∈ ls, ¬(y.a = X ∧ y.n = Y)) : t.get X Y = none := by
  cases hg : t.get X Y with
  | none => rfl
  | some y =>
    have := (get_iff X Y h.wf y).1 hg
    exact absurd this.2 (hn y ((h.eq y).1 this.1))
theorem get_yes {t : T} {ls : List R} {X Y j : Nat} (h : Sm t ls) (hj : j < ls.length) (e : ls[j].a = X ∧ ls[j].n = Y) : t.get X Y = some ls[j] :=
  (get_iff X Y h.wf _).2 ⟨(h.eq _).2 (List.getElem_mem hj), e⟩
theorem cell_lt {w : World} {x : Addr} {v : Value} (h : w.cell? x = some v) : x.block < w.heap.size := by
  rcases Nat.lt_or_ge x.block w.heap.size with hlt | hge
  · exact hlt
  · unfold World.cell? at h
    rw [Array.getElem?_eq_none hge] at h
    simp at h
/-- Addresses that lie in memory. -/
def US (w : World) (A : Option Addr) (us : List Nat) : Prop := ∀ k (hk : k < us.length), ∃ b o, A = some ⟨b, o, none⟩ ∧ b < w.heap.size ∧ w.cell? ⟨b, o + k, none⟩ = some (.int .u32 (us[k] : Int))
theorem US.below {w w' : World} {A : Option Addr} {us : List Nat} (h : US w A us) (B : Below w.heap.size w w') : US w' A us := fun k hk => by
  obtain ⟨b, o, e, hlt, hc⟩ := h k hk
  exact ⟨b, o, e, Nat.lt_of_lt_of_le hlt B.size, by rw [← hc]; exact World.cell?_of_block (a := ⟨b, o + k, none⟩) (B.block _ hlt)⟩
theorem us_of {w : World} {x : Addr} {len : Nat} {zs : List Int} (hl : len ≤ zs.length) (hc : ∀ i, i < zs.length → w.cell? (x.add i) = some (.int .u32 (zs.getD i 0))) (hw : ∀ n ∈ zs, (Lit.int .u32 n).wf = true) :
    ∃ us : List Nat, us.length = len ∧ (∀ u ∈ us, u < 4294967296) ∧ US w (some x) us := by
  refine ⟨(zs.take len).map Int.toNat, by simp; omega, fun u hu => ?_, fun k hk => ?_⟩
  · obtain ⟨z, hz, rfl⟩ := List.mem_map.1 hu
    have := bounds_u32 (hw z (List.mem_of_mem_take hz))
    omega
  · have hk' : k < len := by simp at hk; omega
    have h0 := hc 0 (by omega)
    have e0 : x.add 0 = x := by unfold Addr.add; rw [if_pos rfl]
    rw [e0] at h0
    have hsp := World.cell?_spot h0
    have hck := hc k (by omega)
    obtain ⟨b, o, sp⟩ := x
    have hsp' : sp = none := hsp
    subst hsp'
    rw [add_zero'] at hck
    have hb := bounds_u32 (hw _ (List.getElem_mem (show k < zs.length by omega)))
    refine ⟨b, o, rfl, cell_lt h0, ?_⟩
    rw [hck, List.getD_eq_getElem?_getD, List.getElem?_eq_getElem (by omega), List.getElem_map, List.getElem_take, Option.getD_some]
    congr 2
    omega
/-- Addresses in a slice of the call's own. -/
def UOwn (w : World) (B : Nat) (v : Value) (us : List Nat) : Prop := w.ownsRow B 30 1 v us.length (us.map fun u : Nat => Value.int .u32 (u : Int))
theorem UOwn.nil (w : World) (B : Nat) : UOwn w B (.slice none 0 0) [] := World.ownsRow_nil w B 30 1
theorem UOwn.kept {w w' : World} {B : Nat} {v : Value} {us : List Nat} (h : UOwn w B v us) (hb : Below w.heap.size w w') : UOwn w' B v us :=
  World.ownsRow.kept (row := none) h ⟨hb.os, hb.tape, hb.output, hb.size, fun k hk _ => hb.block k hk⟩ (by cases v.ownBlock <;> simp)
theorem UOwn.form {w : World} {B : Nat} {v : Value} {us : List Nat} (h : UOwn w B v us) : ∃ A c, v = .slice A us.length c ∧ US w A us ∧ (A = none → c = 0) ∧ us.length ≤ c := by
  have hh := h
  rcases h.2 with ⟨rfl, h0⟩ | ⟨g, cap, cur, rfl, hB, h2, hn, _⟩
  · exact ⟨none, 0, by rw [h0], fun k hk => by omega, fun _ => rfl, by omega⟩
  · refine ⟨_, cap, rfl, fun k hk => ⟨g, 0, rfl, (Array.getElem?_eq_some_iff.1 h2).1, ?_⟩, fun e => (by cases e), hn⟩
    rw [Nat.zero_add, World.ownsRow.cellAt hh k (by omega), List.getElem?_map, List.getElem?_eq_getElem hk]
    rfl
theorem US.cells {w : World} {A : Option Addr} {us : List Nat} (h : US w A us) : ∀ ad, A = some ad → ∀ j u, (us.map fun u : Nat => Value.int .u32 (u : Int))[j]? = some u → w.cell? (ad.add j) = some u := by
  intro ad e j u hj
  have hjl : j < us.length := by simpa using (List.getElem?_eq_some_iff.1 hj).1
  obtain ⟨b, o, e', _, hc⟩ := h j hjl
  rw [e] at e'
  injection e' with e'
  subst e'
  rw [add_zero', hc, ← hj, List.getElem?_map, List.getElem?_eq_getElem hjl]
  rfl
theorem info30 : (Try.prog.info? 30).map (fun i => (i.zero, i.size, i.bytes)) = some (some (.int .u32 0), 1, 4) := by kernel_rfl
theorem un23 : Try.prog.underlying 23 = some (.slice 30) := by kernel_rfl
/-- Addresses appended to a slice of the call's own, at a step of a region that draws its order. -/
theorem step_us {w : World} {ops : Array Oper} {o : Oper} {a : Act} {K : Act → World → Prop} {Q : Exit → Act → World → Prop} {E : Prop} (hg : o.guard = none) (s x : Operand)
    (hop : o.op = .call { callee := .builtin .append, args := #[s, x], argTypes := #[23, 23] }) (B : Nat) (v : Value) (ds es : List Nat) (A : Option Addr) (m c : Nat) (hs : a.eval s = v) (hx : a.eval x = .slice A m c) (hown : UOwn w B v ds) (hm : m = es.length)
    (hA : A = none → c = 0) (hc : US w A es) (hl : ds.length + es.length ≤ 100000) (hB : B ≤ w.heap.size)
    (hK : ∀ v' w', UOwn w' B v' (ds ++ es) → w.grownBy w' v.ownBlock → K (a.put o.dst v') w') : if Region.wanted o (yielded ops a.tmps) = true then Oper.wp Try.prog o a w K Q else E := by
  obtain ⟨i0, hi, hz0, hz1, hz2⟩ := info_parts info30
  have hw : Region.wanted o (yielded ops a.tmps) = true := by simp [Region.wanted, hg]
  rw [if_pos hw]
  subst hm
  cases A with
  | none =>
    have hn : es = [] := by
      rcases es with _ | ⟨e, es⟩
      · rfl
      · obtain ⟨b, o, e, _⟩ := hc 0 (by simp); cases e
    subst hn
    obtain rfl := hA rfl
    have hrun := run_append_owned_none (P := Try.prog) (w := w) B 23 o.type 30 i0 1 un23 hi v ds.length (ds.map fun u : Nat => Value.int .u32 (u : Int)) hown
    unfold Oper.wp
    simp [execOp, hop, resolve, invoke, builtin, hs, hx, hrun, Result.andThen]
    exact hK v w (by simpa using hown) (World.grownBy.refl w _)
  | some ad =>
    obtain ⟨v', w', hrun, r1, r2, _⟩ := run_append_own_at (P := Try.prog) (w := w) B 23 o.type 30 i0 _ 1 4 un23 hi hz0 hz1 hz2 rfl (by decide) v ds.length (ds.map fun u : Nat => Value.int .u32 (u : Int)) hown ad es.length c (es.map fun u : Nat => Value.int .u32 (u : Int)) (by simp) (hc.cells ad rfl) (by intro u hu; obtain ⟨z, _, rfl⟩ := List.mem_map.1 hu; rfl) (by unfold maxLen; omega) (by omega) hB
    unfold Oper.wp
    simp [execOp, hop, resolve, invoke, builtin, hs, hx, hrun, Result.andThen]
    refine hK v' w' ?_ r2
    unfold UOwn
    rw [List.map_append, List.length_append]
    exact r1
/-- The addresses on the way. -/
def AR (w : World) (v : Value) (k : Nat) : Prop := ∃ A n c us, v = .slice A n c ∧ n = us.length ∧ n ≤ k ∧ (∀ u ∈ us, u < 4294967296) ∧ US w A us ∧ (A = none → c = 0) ∧ n ≤ c
theorem AR.below {w w' : World} {v : Value} {k : Nat} (h : AR w v k) (B : Below w.heap.size w w') : AR w' v k := by
  obtain ⟨A, n, c, us, h1, h2, h3, h4, h5, h6, h7⟩ := h
  exact ⟨A, n, c, us, h1, h2, h3, h4, h5.below B, h6, h7⟩
end Go.Proofs.Ytfhpcpanjonpeaa.Tri
