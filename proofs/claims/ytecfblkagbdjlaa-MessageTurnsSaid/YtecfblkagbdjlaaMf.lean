/- Contracts: takeNode, take16, takePrefix; whole parts stored and returned. -/
import Derived.Test.YtecfblkagbdjlaaMe
namespace Go.Proofs.Ytecfblkagbdjlaa.Msg
open Go.ChangeShapes Go.WideShapes Go.ChangeAt Go.RowKit
open Coin (coin sz b8 Rd Row Own CoinOwn put_any sz_le length_coin takeV endV bytesV got got_lt Pur take_any)
set_option maxRecDepth 8000

theorem tk_facts (l : List UInt8) (f most : Nat) (hf : f ≤ 12) : (takeV l f most).1 ≤ most ∧ (takeV l f most).2.2 ≤ 12 ∧ (takeV l f most).2.1.length ≤ l.length := by
  have hg := got_lt l
  unfold takeV
  split
  · exact ⟨Nat.zero_le _, hf, Nat.le_refl _⟩
  · split
    · exact ⟨Nat.zero_le _, (by show (got l).2.2 ≤ 12; omega), Nat.le_refl _⟩
    · split
      · exact ⟨Nat.zero_le _, (by show 6 ≤ 12; decide), Nat.le_refl _⟩
      · exact ⟨(by show (got l).1 ≤ most; omega), (by show 0 ≤ 12; decide), (by rw [List.length_drop]; omega)⟩
theorem tk_next (l : List UInt8) (f most : Nat) (hf : f ≤ 12) : ∃ n l' f', takeV l f most = (n, l', f') ∧ n ≤ most ∧ f' ≤ 12 ∧ l'.length ≤ l.length := ⟨_, _, _, rfl, (tk_facts l f most hf).1, (tk_facts l f most hf).2.1, (tk_facts l f most hf).2.2⟩
/-- A call of Take, told. -/
abbrev TkC (f0 : Nat) (args : Array Value) (k : IntKind) (q : Nat) (l : List UInt8) (f n : Nat) (l' : List UInt8) (f' : Nat) : Prop :=
  ∀ W, Pur W q l f → Calls Try.prog f0 args W fun e w' => e = .returned (.int k (n : Int)) ∧ Pur w' q l' f' ∧ W.grownBy w' (some q)
theorem tkc (q : Nat) (l : List UInt8) (f most : Nat) (hf : f ≤ 12) (hm : most < 18446744073709551616) : TkC 38 #[.pointer (some ⟨q, 0, none⟩), .int .u64 (most : Int)] .u64 q l f (takeV l f most).1 (takeV l f most).2.1 (takeV l f most).2.2 :=
  fun W h => take_any W q l f most h hf hm
theorem take_node (q : Nat) (l : List UInt8) (f : Nat) (hf : f ≤ 12) : TkC 29 #[.pointer (some ⟨q, 0, none⟩)] .i64 q l f (takeV l f 15).1 (takeV l f 15).2.1 (takeV l f 15).2.2 := fun W h => by
  have c : TkC 38 #[.pointer (some ⟨q, 0, none⟩), .int .u64 15] .u64 q l f (takeV l f 15).1 (takeV l f 15).2.1 (takeV l f 15).2.2 := tkc q l f 15 hf (by decide)
  have hb := (tk_facts l f 15 hf).1
  obtain ⟨n, hn⟩ : ∃ n, n = (takeV l f 15).1 := ⟨_, rfl⟩
  rw [← hn] at hb c ⊢
  have C := Lib.hid (And.intro c h)
  have hw : IntKind.i64.wrap (n : Int) = n := by rw [IntKind.wrap_i64]; omega
  clear c h hn
  go_enter Try.func29, Try.ntmps29
  go_wp2_with (go_at_call 38; (with_reducible refine (C.out.1 _ C.out.2).mono ?_); rintro e w1 ⟨rfl, P1, G1⟩; have HZ := Lib.hid (And.intro P1 G1); clear P1 G1)
  go_ret
  exact ⟨rfl, HZ.out.1, HZ.out.2⟩
theorem take_16 (q : Nat) (l : List UInt8) (f : Nat) (hf : f ≤ 12) : TkC 49 #[.pointer (some ⟨q, 0, none⟩)] .u16 q l f (takeV l f 65535).1 (takeV l f 65535).2.1 (takeV l f 65535).2.2 := fun W h => by
  have c : TkC 38 #[.pointer (some ⟨q, 0, none⟩), .int .u64 65535] .u64 q l f (takeV l f 65535).1 (takeV l f 65535).2.1 (takeV l f 65535).2.2 := tkc q l f 65535 hf (by decide)
  have hb := (tk_facts l f 65535 hf).1
  obtain ⟨n, hn⟩ : ∃ n, n = (takeV l f 65535).1 := ⟨_, rfl⟩
  rw [← hn] at hb c ⊢
  have C := Lib.hid (And.intro c h)
  have hw : IntKind.u16.wrap (n : Int) = n := by rw [IntKind.wrap_u16]; omega
  clear c h hn
  go_enter Try.func49, Try.ntmps49
  go_wp2_with (go_at_call 38; (with_reducible refine (C.out.1 _ C.out.2).mono ?_); rintro e w1 ⟨rfl, P1, G1⟩; have HZ := Lib.hid (And.intro P1 G1); clear P1 G1)
  go_ret
  exact ⟨rfl, HZ.out.1, HZ.out.2⟩

theorem tkc' {q : Nat} {l l' : List UInt8} {f f' n most : Nat} (e : takeV l f most = (n, l', f')) (hf : f ≤ 12) (hm : most < 18446744073709551616) : TkC 38 #[.pointer (some ⟨q, 0, none⟩), .int .u64 (most : Int)] .u64 q l f n l' f' := by
  have := tkc q l f most hf hm; rwa [e] at this
theorem nod' {q : Nat} {l l' : List UInt8} {f f' n : Nat} (e : takeV l f 15 = (n, l', f')) (hf : f ≤ 12) : TkC 29 #[.pointer (some ⟨q, 0, none⟩)] .i64 q l f n l' f' := by
  have := take_node q l f hf; rwa [e] at this
theorem t16' {q : Nat} {l l' : List UInt8} {f f' n : Nat} (e : takeV l f 65535 = (n, l', f')) (hf : f ≤ 12) : TkC 49 #[.pointer (some ⟨q, 0, none⟩)] .u16 q l f n l' f' := by
  have := take_16 q l f hf; rwa [e] at this
theorem size28 : (Try.prog.info? 28).map (·.size) = some 7 := by kernel_rfl
theorem isrow28 : (match (Try.prog.underlying 28) with | some (.struct _) | some (.array _ _) => true | _ => false) = true := by kernel_rfl
theorem res28 {fn : Func} {p u : Tmp} (h : fn.results = #[.cell p 28, .tmp u]) (tmps : Array Value) (w : World) (g : Nat) (t : TypeId) (cs : Array Value) (fr : Nat × Nat)
    (hp : tmps.getD p undef = .pointer (some ⟨g, 0, none⟩)) (hg : w.heap[g]? = some (.cells cs t fr)) (h4 : cs.size = 7) :
    (results fn tmps).run Try.prog w = .ok (.tuple #[.agg cs, tmps.getD u undef]) w := by
  obtain ⟨d, hu, hd⟩ : ∃ d, Try.prog.underlying 28 = some d ∧ (match d with | .struct _ | .array _ _ => true | _ => false) = true := by
    have h := isrow28
    cases e : Try.prog.underlying 28 with
    | none => rw [e] at h; cases h
    | some d => rw [e] at h; exact ⟨d, rfl, by cases d <;> first | rfl | cases h⟩
  rw [results_cell_tmp h, hp]
  simp [asAddr, Result.andThen, run_loadVar_row w g t 28 cs fr d hg hu (by cases d <;> first | rfl | cases hd) (by rw [size28, h4])]
/-- A whole part stored. -/
theorem put28 {ops : Array Oper} {rest : List Oper} {o : Oper} {a : Act} {w : World} {Q : Exit → Act → World → Prop} (hgd : o.guard = none) (x y : Operand) (ho : o.op = .store 28 x y)
    (g : Nat) (hx : a.eval x = .pointer (some ⟨g, 0, none⟩)) {x0 x1 x2 x3 x4 x5 x6 : Value} (hg : w.heap[g]? = some (.cells #[x0, x1, x2, x3, x4, x5, x6] 28))
    {v0 v1 v2 v3 v4 v5 v6 : Int} (hy : a.eval y = .agg #[.int .u8 v0, .int .u64 v1, .int .i64 v2, .int .u32 v3, .int .u8 v4, .int .u16 v5, .int .u16 v6])
    (h : ∀ w', w'.heap[g]? = some (.cells #[.int .u8 v0, .int .u64 v1, .int .i64 v2, .int .u32 v3, .int .u8 v4, .int .u16 v5, .int .u16 v6] 28) → w.grownBy w' (some g) → wpList Try.prog ops Q rest (a.put o.dst undef) w') :
    wpList Try.prog ops Q (o :: rest) a w := by
  refine wpList_store_row hgd 28 x y ho g _ hx hy 28 _ hg size28 rfl (by simp [Value.oneCell']) ?_
  refine h _ (setRow_heap w g _ _ 28 _ hg) ⟨rfl, rfl, rfl, by simp, fun k _ hne => setRow_other w g k _ (fun e => hne (by rw [e]))⟩
theorem row2p {w : World} {g : Nat} {v0 v1 : Value} {t : Nat} (h : w.heap[g]? = some (.cells #[v0, v1] t (0, 0))) :
    (w.cell? ⟨g, 0, none⟩ = some v0 ∧ w.cell? ⟨g, 1, none⟩ = some v1) ∧ ∀ j, w.frozen? ⟨g, j, none⟩ = false := by
  refine ⟨⟨?_, ?_⟩, fun j => frozen_of_row w g j _ t h⟩
  all_goals (rw [cell_of_row w g _ _ t (0, 0) h]; rfl)
theorem grown_alloc2 {w w1 w2 : World} {q : Nat} (B : Below w.heap.size w w1) (G : w1.grownBy w2 (some q)) : w.grownBy w2 (some q) :=
  ⟨G.os.trans B.os, G.tape.trans B.tape, G.output.trans B.output, Nat.le_trans B.size G.size, fun k hk hn => (G.block k (Nat.lt_of_lt_of_le hk B.size) hn).trans (B.block k hk)⟩
/-- takePrefix, told. -/
theorem take_pfx {q : Nat} {l l1 l2 : List UInt8} {f f1 f2 n1 n2 : Nat} (e1 : takeV l f 4294967295 = (n1, l1, f1)) (e2 : takeV l1 f1 32 = (n2, l2, f2)) (hf : f ≤ 12) (W : World) (h : Pur W q l f) :
    Calls Try.prog 50 #[.pointer (some ⟨q, 0, none⟩)] W fun e w' => e = .returned (.agg #[.int .u32 (n1 : Int), .int .u8 (n2 : Int)]) ∧ Pur w' q l2 f2 ∧ W.grownBy w' (some q) := by
  have b1 := tk_facts l f 4294967295 hf
  rw [e1] at b1
  have b2 := tk_facts l1 f1 32 b1.2.1
  rw [e2] at b2
  obtain ⟨b1, b3, -⟩ := b1
  obtain ⟨b2, -, -⟩ := b2
  simp only at b1 b2 b3
  have c1 : TkC 38 #[.pointer (some ⟨q, 0, none⟩), .int .u64 4294967295] .u64 q l f n1 l1 f1 := tkc' e1 hf (by decide)
  have c2 : TkC 38 #[.pointer (some ⟨q, 0, none⟩), .int .u64 32] .u64 q l1 f1 n2 l2 f2 := tkc' e2 b3 (by decide)
  have hqW : q < W.heap.size := h.lt
  have B0 := (Below.refl W.heap.size W).alloc (Nat.le_refl _) (.cells #[.int .u32 0, .int .u8 0] 25)
  have R0 := heap_alloc_new W (.cells #[.int .u32 0, .int .u8 0] 25)
  have HC := Lib.hid (And.intro c1 (And.intro c2 (And.intro (h.below B0) (And.intro B0 R0))))
  have hw1 : IntKind.u32.wrap (n1 : Int) = n1 := by rw [IntKind.wrap_u32]; omega
  have hw2 : IntKind.u8.wrap (n2 : Int) = n2 := by rw [IntKind.wrap_u8]; omega
  clear c1 c2 h B0 R0 e1 e2
  go_enter Try.func50, Try.ntmps50
  go_wp2_with (first
    | (go_at_call 38; (with_reducible refine (HC.out.1 _ HC.out.2.2.1).mono ?_); rintro e w1 ⟨rfl, P1, G1⟩; have HZ := Lib.hid (And.intro P1 G1); clear P1 G1)
    | (go_at_call 38; (with_reducible refine (HC.out.2.1 _ HZ.out.1).mono ?_); rintro e w2 ⟨rfl, P2, G2⟩; have G := grown_alloc2 HC.out.2.2.2.1 (Coin.grown_trans HZ.out.2 G2); have R2 := (G2.block W.heap.size (Nat.lt_of_lt_of_le (by simp) HZ.out.2.size) (by intro e; injection e with e; omega)).trans ((HZ.out.2.block W.heap.size (by simp) (by intro e; injection e with e; omega)).trans HC.out.2.2.2.2); obtain ⟨⟨m0, m1⟩, mf⟩ := row2p R2; have HZ2 := Lib.hid (And.intro P2 (And.intro G R2)); clear P2 G2 G))
  (try simp only [Exit.inBlock, Exit.then])
  have R3 : ((w2.setCell ⟨W.heap.size, 0, none⟩ (.int .u32 (n1 : Int))).setCell ⟨W.heap.size, 1, none⟩ (.int .u8 (n2 : Int))).heap[W.heap.size]? = some (.cells #[.int .u32 (n1 : Int), .int .u8 (n2 : Int)] 25 (0, 0)) :=
    heap_setCell_same _ _ 1 _ 25 _ (heap_setCell_same _ _ 0 _ 25 _ HZ2.out.2.2)
  obtain ⟨⟨u0, u1⟩, -⟩ := row2p R3
  have hne : ∀ (w : World) i v k, k < W.heap.size → (w.setCell ⟨W.heap.size, i, none⟩ v).heap[k]? = w.heap[k]? := fun w i v k hk => heap_setCell_other w ⟨W.heap.size, i, none⟩ k v (by show k ≠ W.heap.size; omega)
  refine bodyPost_ret (v := .agg #[.int .u32 (n1 : Int), .int .u8 (n2 : Int)]) (by simp [results, Try.results50, go_sem, u0, u1]) rfl ⟨rfl, HZ2.out.1.far fun k hk => (hne _ _ _ k (by omega)).trans (hne _ _ _ k (by omega)), ?_⟩
  have G := HZ2.out.2.1
  exact ⟨G.os, G.tape, G.output, Nat.le_trans G.size (by simp [World.setCell]), fun k hk hn => ((hne _ _ _ k hk).trans (hne _ _ _ k hk)).trans (G.block k hk hn)⟩
end Go.Proofs.Ytecfblkagbdjlaa.Msg
