/- remove, Lose, Double. -/
import Derived.Test.YteolfclkcgfelaaEe
namespace Go.Proofs.Yteolfclkcgfelaa.Eth
open Go.ChangeShapes Go.WideShapes Go.ChangeAt Go.RowKit
open Coin (Rd Own b8 Row)
set_option maxRecDepth 8000
set_option linter.unusedVariables false
variable {lo : Nat} {w : World} {q : Nat} {H : Nat → Nat → Bool} {l : List Pk} {v : Value}

def rm (l : List Pk) (k : Nat) : List Pk := l.take k ++ l.drop (k + 1)
/-- No more are under way than may be. -/
def most (l : List Pk) : List Pk := l.drop (l.length - 1024)
theorem remove_any (h : EAt lo w q H l v) (hn : 0 < l.length) (hm : l.length ≤ 5000) (i : Int) : Calls Try.prog 20 #[.pointer (some ⟨q, 0, none⟩), .int .i64 i] w fun e w' => e = .returned (.tuple #[]) ∧ ∃ v', EAt lo w' q H (rm l (plc i l.length)) v' ∧ EF w w' q v v' := by
  obtain ⟨A, c, rfl, -⟩ := h.sl.len
  have cp := place_any h hn (by omega) i
  have hk := plc_lt i hn
  have cd : Calls Try.prog 21 #[.slice A l.length c, .int .i64 (plc i l.length : Int), .int .i64 ((plc i l.length : Int) + 1)] w (DelSaid lo w (.slice A l.length c) (rm l (plc i l.length))) := del_any h.sl (plc i l.length) (plc i l.length + 1) (by omega) (by omega) (fun h => by omega)
  have p := h.under
  generalize hl' : rm l (plc i l.length) = l' at *
  generalize plc i l.length = k at *
  have HE := Lib.hid h
  have hk9 : k ≤ 5000 := by omega
  generalize l.length = n at *
  clear h hl' hk hn hm
  go_enter Try.func20, Try.ntmps20
  go_wp2_with (first
    | (go_at_call 19; (with_reducible refine cp.mono ?_); rintro e w1 ⟨rfl, rfl⟩)
    | (go_at_call 21; (with_reducible refine cd.mono ?_); rintro e w2 ⟨v2, rfl, P2, O2, G2⟩; have H2 := Lib.hid (HE.out.putP P2 G2 (.inl O2)); obtain ⟨A2, c2, hv2, -⟩ := P2.len; generalize l'.length = n2 at hv2; subst hv2; have c1 := row_under H2.out.1; have f1 := frozen_of_row _ q 256 _ 29 H2.out.1; clear P2 O2 G2))
  exact bodyPost_end (v := .tuple #[]) (by simp [results, Try.results20, go_sem]) rfl ⟨rfl, _, H2.out.2⟩
theorem Lose_none (h : EAt lo w q H [] v) (i : Int) : Calls Try.prog 12 #[.pointer (some ⟨q, 0, none⟩), .int .i64 i] w fun e w' => e = .returned (.int .i64 2) ∧ w = w' := by
  have cl := len_any h
  rw [List.length_nil] at cl
  clear h
  go_enter Try.func12, Try.ntmps12
  go_wp2_with (go_at_call 14; (with_reducible refine cl.mono ?_); rintro e w1 ⟨rfl, rfl⟩)
  go_ret
  exact ⟨rfl, rfl⟩
theorem Lose_nil (w : World) (i : Int) : Calls Try.prog 12 #[.pointer none, .int .i64 i] w fun e w' => e = .returned (.int .i64 2) ∧ w = w' := by
  have cl := len_nil w
  go_enter Try.func12, Try.ntmps12
  go_wp2_with (go_at_call 14; (with_reducible refine cl.mono ?_); rintro e w1 ⟨rfl, rfl⟩)
  go_ret
  exact ⟨rfl, rfl⟩
theorem Lose_any (h : EAt lo w q H l v) (hn : 0 < l.length) (hm : l.length ≤ 5000) (i : Int) : Calls Try.prog 12 #[.pointer (some ⟨q, 0, none⟩), .int .i64 i] w fun e w' => e = .returned (.int .i64 0) ∧ ∃ v', EAt lo w' q H (rm l (plc i l.length)) v' ∧ EF w w' q v v' := by
  have cl := len_any h
  have cr := remove_any h hn hm i
  generalize rm l (plc i l.length) = l' at *
  generalize l.length = n at *
  have hn0 : ¬ (n : Int) = 0 := by omega
  clear h hm
  go_enter Try.func12, Try.ntmps12
  go_wp2_with (first
    | (go_at_call 14; (with_reducible refine cl.mono ?_); rintro e w1 ⟨rfl, rfl⟩)
    | (go_at_call 20; (with_reducible refine cr.mono ?_); rintro e w1 ⟨rfl, v', hv'⟩; have H2 := Lib.hid hv'; clear hv'))
  go_ret
  exact ⟨rfl, _, H2.out⟩
theorem app_run {p : Pk} {u : Value} {b : Nat} (ty : TypeId) (hown : PSl lo w v l) (hp : Own w lo u p.d) (hc : w.heap[b]? = some (.cells #[.int .i64 (p.f : Int), .int .i64 (p.t : Int), u] 39 (0, 0))) (hlen : l.length ≤ 100000) (hB : lo ≤ w.heap.size) :
    ∃ v' w', (Builtin.append_ #[27, 27] ty #[v, .slice (some ⟨b, 0, none⟩) 1 1]).run Try.prog w = .ok v' w' ∧ PSl lo w' v' (l ++ [p]) ∧ w.grownBy w' v.ownBlock ∧ (v'.ownBlock = v.ownBlock ∨ v'.ownBlock = some w.heap.size) := by
  obtain ⟨vs, rfl, h2, h3⟩ := hown
  obtain ⟨i0, hi, hz0, hz1, hz2⟩ := info_parts info39
  rw [List.length_map] at hlen
  obtain ⟨v', w', hrun, h1', h2', -, h4'⟩ := run_append_own_at (P := Try.prog) w lo 27 ty 39 i0 _ 3 40 Try.underlying27 hi hz0 hz1 hz2 rfl (by decide) v vs.length (vs.flatMap Pk.cl) h2 ⟨b, 0, none⟩ 1 1 (Pk.cl (p, u)) rfl (fun j y hj => by
      rw [Coin.zero_add', cell_of_row w b j _ 39 (0, 0) hc]
      simpa [Pk.cl] using hj) (fun y hy => by
      simp only [Pk.cl, List.mem_cons, List.not_mem_nil, or_false] at hy
      rcases hy with rfl | rfl | rfl
      · rfl
      · rfl
      · exact own_one hp) (by unfold maxLen; omega) (by omega) hB
  have hd : ∀ y d, Own w lo y d → Own w' lo y d := fun y d hy => own_keep hy fun g hg => by
    obtain ⟨_, hlt, cur, hgc⟩ := own_ty hy hg
    refine h2'.block g hlt fun e => ?_
    obtain ⟨_, _, cur', hg'⟩ := own_ty h2 e.symm
    rw [hgc] at hg'; injection hg' with hg'; injection hg' with _ h5 _; cases h5
  refine ⟨v', w', hrun, ⟨vs ++ [(p, u)], by simp, ?_, fun y hy => ?_⟩, h2', h4'⟩
  · rw [List.length_append, List.flatMap_append]
    simpa using h1'
  · rcases List.mem_append.1 hy with hy | hy
    · exact hd _ _ (h3 y hy)
    · rw [List.mem_singleton] at hy; subst hy
      exact hd _ _ hp
/-- At a step of a region that draws its order. -/
theorem step_pk {ops : Array Oper} {o : Oper} {a : Act} {K : Act → World → Prop} {Q : Exit → Act → World → Prop} {E : Prop} (hg : o.guard = none) (s x : Operand)
    (hop : o.op = .call { callee := .builtin .append, args := #[s, x], argTypes := #[27, 27] }) (v : Value) (p : Pk) (u : Value) (b : Nat) (hs : a.eval s = v) (hx : a.eval x = .slice (some ⟨b, 0, none⟩) 1 1)
    (hown : PSl lo w v l) (hp : Own w lo u p.d) (hc : w.heap[b]? = some (.cells #[.int .i64 (p.f : Int), .int .i64 (p.t : Int), u] 39 (0, 0))) (hlen : l.length ≤ 100000) (hB : lo ≤ w.heap.size)
    (hK : ∀ v' w', PSl lo w' v' (l ++ [p]) → w.grownBy w' v.ownBlock → (v'.ownBlock = v.ownBlock ∨ v'.ownBlock = some w.heap.size) → K (a.put o.dst v') w') : if Region.wanted o (yielded ops a.tmps) = true then Oper.wp Try.prog o a w K Q else E := by
  have hw : Region.wanted o (yielded ops a.tmps) = true := by simp [Region.wanted, hg]
  rw [if_pos hw]
  obtain ⟨v', w', hrun, P, G, O⟩ := app_run o.type hown hp hc hlen hB
  unfold Oper.wp
  simp [execOp, hop, resolve, invoke, builtin, hs, hx, hrun, Result.andThen]
  exact hK v' w' P G O
theorem Double_none (h : EAt lo w q H [] v) (i : Int) : Calls Try.prog 10 #[.pointer (some ⟨q, 0, none⟩), .int .i64 i] w fun e w' => e = .returned (.int .i64 2) ∧ w = w' := by
  have cl := len_any h
  rw [List.length_nil] at cl
  clear h
  go_enter Try.func10, Try.ntmps10
  go_wp2_with (go_at_call 14; (with_reducible refine cl.mono ?_); rintro e w1 ⟨rfl, rfl⟩)
  go_ret
  exact ⟨rfl, rfl⟩
theorem Double_nil (w : World) (i : Int) : Calls Try.prog 10 #[.pointer none, .int .i64 i] w fun e w' => e = .returned (.int .i64 2) ∧ w = w' := by
  have cl := len_nil w
  go_enter Try.func10, Try.ntmps10
  go_wp2_with (go_at_call 14; (with_reducible refine cl.mono ?_); rintro e w1 ⟨rfl, rfl⟩)
  go_ret
  exact ⟨rfl, rfl⟩
end Go.Proofs.Yteolfclkcgfelaa.Eth
