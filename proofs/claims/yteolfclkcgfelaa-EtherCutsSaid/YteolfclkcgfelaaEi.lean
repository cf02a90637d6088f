/- Take. -/
import Derived.Test.YteolfclkcgfelaaEh
namespace Go.Proofs.Yteolfclkcgfelaa.Eth
open Go.ChangeShapes Go.WideShapes Go.ChangeAt Go.RowKit
open Coin (Rd Own b8 Row)
set_option maxRecDepth 8000
set_option linter.unusedVariables false
variable {lo : Nat} {w : World} {q : Nat} {H : Nat → Nat → Bool} {l : List Pk} {v : Value}

theorem EF.then {w' w'' : World} {v' : Value} (h : EF w w' q v v') (B : Below w.heap.size w' w'') : EF w w'' q v v' :=
  ⟨B.os.trans h.os, B.tape.trans h.tape, B.output.trans h.output, Nat.le_trans h.size B.size, fun k hk h1 h2 => (B.block k hk).trans (h.block k hk h1 h2), h.own⟩
/-- A block that is none of the ether's is written. -/
theorem EAt.far {w' : World} (h : EAt lo w q H l v) {k : Nat} (hs : ∀ g, g ≠ k → w'.heap[g]? = w.heap[g]?) (hq : k ≠ q) (hv : v.ownBlock ≠ some k) {c : Array Value} {t : TypeId} {fr : Nat × Nat} (hk : w.heap[k]? = some (.cells c t fr)) (ht : t ≠ 5) : EAt lo w' q H l v := by
  refine ⟨(hs q fun e => hq e.symm).trans h.row, h.sl.keep fun g _ _ hor => hs g fun e => ?_⟩
  subst e
  rcases hor with hor | ⟨cur, hor⟩
  · exact hv hor
  · rw [hk] at hor; injection hor with hor; injection hor with _ h3 _
    exact ht h3
theorem Take_two (w : World) (p : Value) (i : Int) (hl : ∀ W, Below w.heap.size w W → Calls Try.prog 11 #[p, .int .i64 i] W fun e w' => e = .returned (.tuple #[zeroP, .int .i64 2]) ∧ Below W.heap.size W w') : Calls Try.prog 13 #[p, .int .i64 i] w fun e w' => e = .returned (.tuple #[zeroP, .int .i64 2]) ∧ Below w.heap.size w w' := by
  have B0 := (Below.refl w.heap.size w).alloc (Nat.le_refl _) (.cells #[.int .i64 0, .int .i64 0, .slice none 0 0] 39)
  have R0 := heap_alloc_new w (.cells #[.int .i64 0, .int .i64 0, .slice none 0 0] 39)
  have cl := hl _ B0
  unfold zeroP at *
  obtain ⟨p0, p1, p2, pf⟩ := row3f R0
  have HR := Lib.hid (And.intro R0 B0)
  clear hl B0 R0
  go_enter Try.func13, Try.ntmps13
  go_wp2_with (go_at_call 11; (with_reducible refine cl.mono ?_); rintro e w1 ⟨rfl, B1⟩; have R1 := (B1.block _ (Array.getElem?_eq_some_iff.1 HR.out.1).1).trans HR.out.1; have BA := (Below.refl w1.heap.size w1).alloc (Nat.le_refl _) (.cells #[.int .i64 0, .int .i64 0, .slice none 0 0] 39); have RZ := heap_alloc_new w1 (.cells #[.int .i64 0, .int .i64 0, .slice none 0 0] 39); have R2 := (BA.block _ (Array.getElem?_eq_some_iff.1 R1).1).trans R1; obtain ⟨z0, z1, z2, zf⟩ := row3f RZ; obtain ⟨p0, p1, p2, pf⟩ := row3f R2; have HB := Lib.hid (And.intro (HR.out.2.trans ((B1.mono (Nat.le_of_lt (Array.getElem?_eq_some_iff.1 HR.out.1).1)).trans (BA.mono (Nat.le_of_lt (Array.getElem?_eq_some_iff.1 R1).1)))) R2); clear R1 BA RZ R2 B1)
  exact bodyPost_ret (results_ct rfl _ _ w.heap.size 39 _ (0, 0) _ (.int .i64 2) rfl rfl (put39 HB.out.2 _ _ _) Try.underlying39 rfl (by kernel_rfl)) rfl ⟨rfl, below3 HB.out.1 (Nat.le_refl _) _ _ _⟩
theorem Take_nil (w : World) (i : Int) : Calls Try.prog 13 #[.pointer none, .int .i64 i] w fun e w' => e = .returned (.tuple #[zeroP, .int .i64 2]) ∧ Below w.heap.size w w' := Take_two w _ i fun W _ => Peek_nil W i
theorem Take_none (h : EAt lo w q H [] v) (i : Int) : Calls Try.prog 13 #[.pointer (some ⟨q, 0, none⟩), .int .i64 i] w fun e w' => e = .returned (.tuple #[zeroP, .int .i64 2]) ∧ Below w.heap.size w w' := Take_two w _ i fun W B => Peek_none (h.below B) i
set_option maxHeartbeats 2000000 in
theorem Take_any (h : EAt lo w q H l v) (hn : 0 < l.length) (hm : l.length ≤ 5000) (hd : ∀ x ∈ l, x.d.length ≤ 100000) (i : Int) : Calls Try.prog 13 #[.pointer (some ⟨q, 0, none⟩), .int .i64 i] w fun e w' => ∃ u v', e = .returned (.tuple #[pkV (l[plc i l.length]'(plc_lt i hn)) u, .int .i64 0]) ∧ Own w' w.heap.size u (l[plc i l.length]'(plc_lt i hn)).d ∧ EAt lo w' q H (rm l (plc i l.length)) v' ∧ EF w w' q v v' := by
  have B0 := (Below.refl w.heap.size w).alloc (Nat.le_refl _) (.cells #[.int .i64 0, .int .i64 0, .slice none 0 0] 39)
  have R0 := heap_alloc_new w (.cells #[.int .i64 0, .int .i64 0, .slice none 0 0] 39)
  have h0 := h.below B0
  have cl := Peek_any h0 hn hm hd i
  have HRm : Hid (∀ W, EAt lo W q H l v → Calls Try.prog 20 #[.pointer (some ⟨q, 0, none⟩), .int .i64 i] W fun e w' => e = .returned (.tuple #[]) ∧ ∃ v', EAt lo w' q H (rm l (plc i l.length)) v' ∧ EF W w' q v v') := Lib.hid fun W hW => remove_any hW hn hm i
  generalize l[plc i l.length]'(plc_lt i hn) = p at *
  generalize rm l (plc i l.length) = l' at *
  have HR := Lib.hid (And.intro R0 (And.intro B0 (And.intro h0 h)))
  unfold pkV at *
  obtain ⟨p0, p1, p2, pf⟩ := row3f R0
  clear h hn hm hd h0 R0 B0
  go_enter Try.func13, Try.ntmps13
  go_wp2_with (first
    | (go_at_call 11; (with_reducible refine cl.mono ?_); rintro e w1 ⟨u, rfl, O1, B1⟩; obtain ⟨uA, uc, hu, -⟩ := O1.form; generalize p.d.length = um at hu; subst hu; have R1 := (B1.block _ (Array.getElem?_eq_some_iff.1 HR.out.1).1).trans HR.out.1; have hz := (Array.getElem?_eq_some_iff.1 R1).1; have BA := (Below.refl w1.heap.size w1).alloc (Nat.le_refl _) (.cells #[.int .i64 (p.f : Int), .int .i64 (p.t : Int), .slice uA um uc] 39); have RZ := heap_alloc_new w1 (.cells #[.int .i64 (p.f : Int), .int .i64 (p.t : Int), .slice uA um uc] 39); have RY := heap_alloc_new w1 (.cells #[.int .i64 0, .int .i64 0, .slice none 0 0] 39); obtain ⟨z0, z1, z2, zf⟩ := row3f RY; have R2 := (BA.block _ hz).trans R1; have H2 := Lib.hid (And.intro ((HR.out.2.2.1.below B1).below BA) (And.intro RZ (And.intro R2 (And.intro (own_keep O1 fun g hg => BA.block g (own_ty O1 hg).2.1) (HR.out.2.1.trans ((B1.mono (Nat.le_of_lt (Array.getElem?_eq_some_iff.1 HR.out.1).1)).trans (BA.mono (Nat.le_of_lt hz)))))))); clear R1 BA RZ R2 B1 O1 RY)
    | (go_at_call 20; (with_reducible refine (HRm.out _ H2.out.1).mono ?_); rintro e w3 ⟨rfl, v3, E3, F3⟩; have hq9 := HR.out.2.2.2.lt; have ho9 := fun y (hy : v.ownBlock = some y) => (HR.out.2.2.2.sl.ty hy).2.1; have RZ3 := (F3.block _ (Array.getElem?_eq_some_iff.1 H2.out.2.1).1 (by omega) (fun e => by have := ho9 _ e.symm; omega)).trans H2.out.2.1; have R3 := (F3.block _ (Array.getElem?_eq_some_iff.1 H2.out.2.2.1).1 (by omega) (fun e => by have := ho9 _ e.symm; omega)).trans H2.out.2.2.1; obtain ⟨z0, z1, z2, zf⟩ := row3f RZ3; obtain ⟨p0, p1, p2, pf⟩ := row3f R3; have H3 := Lib.hid (And.intro E3 (And.intro F3 R3)); clear E3 F3 RZ3 R3 hq9 ho9))
  have hq9 := HR.out.2.2.2.lt
  have ho9 := fun y (hy : v.ownBlock = some y) => (HR.out.2.2.2.sl.ty hy).2.1
  have F := (EF.of q v H2.out.2.2.2.2).trans H3.out.2.1
  have hlt := (Array.getElem?_eq_some_iff.1 H2.out.2.2.1).1
  refine bodyPost_ret (results_ct rfl _ _ w.heap.size 39 _ (0, 0) _ (.int .i64 0) rfl rfl (put39 H3.out.2.2 _ _ _) Try.underlying39 rfl (by kernel_rfl)) rfl ⟨_, v3, rfl, own_le (own_keep H2.out.2.2.2.1 fun y hy => ?_) (Nat.le_of_lt (Array.getElem?_eq_some_iff.1 HR.out.1).1), H3.out.1.far (k := w.heap.size) (fun y hy => puts_ne _ _ _ hy) (by omega) ?_ H3.out.2.2 (by decide), F.then (below3 (Below.refl _ _) (Nat.le_refl _) _ _ _)⟩
  · obtain ⟨o1, o2, cur, o3⟩ := own_ty H2.out.2.2.2.1 hy
    have := (Array.getElem?_eq_some_iff.1 HR.out.1).1
    rw [puts_ne _ _ _ (by omega)]
    exact (H3.out.2.1.kept H2.out.1 o3 (by decide) (by decide)).trans o3.symm
  · intro e
    rcases H3.out.2.1.own with o | ⟨y, o1, o2⟩
    · have := ho9 _ (o.symm.trans e); omega
    · have := Option.some.inj (o1.symm.trans e); omega
end Go.Proofs.Yteolfclkcgfelaa.Eth
