/- The document's near. -/
import Derived.Test.YtecfblkagbdjlaaMo
namespace Go.Proofs.Ytecfblkagbdjlaa.Msg
open Go.ChangeShapes Go.WideShapes Go.ChangeAt Go.RowKit
open Coin (coin sz b8 Rd Row Own CoinOwn put_any sz_le length_coin rcoin_own app_any info5 one_b8)
set_option maxRecDepth 8000
set_option linter.unusedVariables false

theorem res28a {fn : Func} {p : Tmp} (h : fn.results = #[.cell p 28]) (tmps : Array Value) (w : World) (g : Nat) (t : TypeId) (cs : Array Value) (fr : Nat × Nat)
    (hp : tmps.getD p undef = .pointer (some ⟨g, 0, none⟩)) (hg : w.heap[g]? = some (.cells cs t fr)) (h4 : cs.size = 7) :
    (results fn tmps).run Try.prog w = .ok (.agg cs) w := by
  obtain ⟨d, hu, hd⟩ : ∃ d, Try.prog.underlying 28 = some d ∧ (match d with | .struct _ | .array _ _ => true | _ => false) = true := by
    have h := isrow28
    cases e : Try.prog.underlying 28 with
    | none => rw [e] at h; cases h
    | some d => rw [e] at h; exact ⟨d, rfl, by cases d <;> first | rfl | cases h⟩
  exact results_cell_row h tmps w g t cs fr d hp hg hu (by cases d <;> first | rfl | cases hd) (by rw [size28, h4])
/-- A part that may be. -/
def Pt.near (x : Pt) : Pt :=
  if x.K % 4 = 0 then ⟨1, x.N % 4294967296, 0, 0, 0, 0, 0⟩
  else if x.K % 4 = 1 then ⟨2, 0, ((x.Nd % 16).toNat : Int), 0, 0, 0, x.M⟩
  else if x.K % 4 = 2 then ⟨3, 0, ((x.Nd % 16).toNat : Int), Pre.top x.A x.L, Pre.len x.L, x.Sq, x.M⟩
  else ⟨4, x.N % 65, 0, Pre.top x.A x.L, Pre.len x.L, x.Sq, 0⟩
theorem near_fits {x : Pt} (hx : x.Fits) : x.near.Fits := by
  have h1 := hx.n
  have h2 := hx.s
  have h3 := hx.m
  have h4 := Pre.top_lt (n := x.L) hx.a
  have h5 := Pre.len_le x.L
  have h6 : 0 ≤ x.Nd % 16 := Int.emod_nonneg _ (by decide)
  have h7 : x.Nd % 16 < 16 := Int.emod_lt_of_pos _ (by decide)
  unfold Pt.near
  repeat' split
  all_goals (constructor <;> (dsimp only; omega))
theorem near_rt (x : Pt) : x.near.rt = true := by
  have h5 := Pre.right_top x.A x.L
  have h6 : 0 ≤ x.Nd % 16 := Int.emod_nonneg _ (by decide)
  have h7 : x.Nd % 16 < 16 := Int.emod_lt_of_pos _ (by decide)
  unfold Pt.near
  repeat' split
  all_goals (unfold Pt.rt isNd; simp; try omega)
  · exact ⟨by omega, h5⟩
  · exact ⟨h5, by omega⟩
set_option maxHeartbeats 1000000 in
theorem near0 (k n a l s m n1 n2 d1 A L : Nat) (d : Int) (hA : A < 4294967296) (hL : L < 256) (hr : (k : Int).tmod 4 = 0) (hn1 : (n : Int).tmod 4294967296 = n1) (hn1' : n1 < 4294967296) (hn2 : (n : Int).tmod 65 = n2) (hn2' : n2 < 65) (hd1 : (IntKind.u64.wrap d).tmod 16 = d1) (hd1' : d1 < 16)
    (hof : ∀ W, Calls Try.prog 19 #[.int .u32 (a : Int), .int .u8 (l : Int)] W fun e w' => e = .returned (.agg #[.int .u32 (A : Int), .int .u8 (L : Int)]) ∧ Below W.heap.size W w') (w : World) :
    Calls Try.prog 8 #[.agg #[.int .u8 (k : Int), .int .u64 (n : Int), .int .i64 d, .int .u32 (a : Int), .int .u8 (l : Int), .int .u16 (s : Int), .int .u16 (m : Int)]] w fun e w' => e = .returned (.agg (Pt.cl ⟨1, n1, 0, 0, 0, 0, 0⟩).toArray) ∧ Below w.heap.size w w' := by
  have H := Lib.hid hof
  have B0 := Lib.hid (((Below.refl w.heap.size w).alloc (Nat.le_refl _) (.cells #[.int .u8 (k : Int), .int .u64 (n : Int), .int .i64 d, .int .u32 (a : Int), .int .u8 (l : Int), .int .u16 (s : Int), .int .u16 (m : Int)] 28)).alloc (by simp) (.cells #[.int .u8 0, .int .u64 0, .int .i64 0, .int .u32 0, .int .u8 0, .int .u16 0, .int .u16 0] 28))
  have R0 := heap_alloc_new w (.cells #[.int .u8 (k : Int), .int .u64 (n : Int), .int .i64 d, .int .u32 (a : Int), .int .u8 (l : Int), .int .u16 (s : Int), .int .u16 (m : Int)] 28)
  have R1' := heap_alloc_new (w.alloc (.cells #[.int .u8 (k : Int), .int .u64 (n : Int), .int .i64 d, .int .u32 (a : Int), .int .u8 (l : Int), .int .u16 (s : Int), .int .u16 (m : Int)] 28)) (.cells #[.int .u8 0, .int .u64 0, .int .i64 0, .int .u32 0, .int .u8 0, .int .u16 0, .int .u16 0] 28)
  rw [show (w.alloc (.cells #[.int .u8 (k : Int), .int .u64 (n : Int), .int .i64 d, .int .u32 (a : Int), .int .u8 (l : Int), .int .u16 (s : Int), .int .u16 (m : Int)] 28)).heap.size = w.heap.size + 1 by simp] at R1'
  have HR := Lib.hid (And.intro ((heap_alloc_old (w.alloc (.cells #[.int .u8 (k : Int), .int .u64 (n : Int), .int .i64 d, .int .u32 (a : Int), .int .u8 (l : Int), .int .u16 (s : Int), .int .u16 (m : Int)] 28)) (.cells #[.int .u8 0, .int .u64 0, .int .i64 0, .int .u32 0, .int .u8 0, .int .u16 0, .int .u16 0] 28) (by simp)).trans R0) R1')
  have w1 : IntKind.u64.wrap (n1 : Int) = n1 := by rw [wrap_u64]; omega
  have w2 : IntKind.u64.wrap (n2 : Int) = n2 := by rw [wrap_u64]; omega
  have w3 : IntKind.u64.wrap (d1 : Int) = d1 := by rw [wrap_u64]; omega
  have w4 : IntKind.i64.wrap (d1 : Int) = d1 := by rw [IntKind.wrap_i64]; omega
  have w5 : IntKind.u8.wrap (0 : Int) = 0 := rfl
  clear hof R0 R1'
  go_enter Try.func8, Try.ntmps8
  go_wp2_with (first
    | (go_at_call 19; (with_reducible refine (H.out _).mono ?_); (rintro e w6 ⟨rfl, B6⟩; have h7 := (B6.block w.heap.size (by simp; omega)).trans HR.out.1; have h8 := (B6.block (w.heap.size + 1) (by simp)).trans HR.out.2; have e7 : w.heap.size < w6.heap.size := (Array.getElem?_eq_some_iff.1 h7).1; have e8 : w.heap.size + 1 < w6.heap.size := (Array.getElem?_eq_some_iff.1 h8).1; have h9 := (heap_alloc_old w6 (.cells #[.int .u32 (A : Int), .int .u8 (L : Int)] 25) e8).trans h8; obtain ⟨⟨g0, g1, g2, g3, g4, g5, g6⟩, -⟩ := row7 h7; have b9 : Below w.heap.size w (w6.alloc (.cells #[.int .u32 (A : Int), .int .u8 (L : Int)] 25)) := (B0.out.trans (B6.mono (by simp; omega))).alloc (by omega) _; clear B6 h7 h8))
    | (with_reducible refine put28 rfl (.tmp 2) (.tmp 19) rfl (w.heap.size + 1) rfl h9 rfl ?_; intro wx Ex Gx))
  (try simp only [Exit.inBlock, Exit.then])
  exact bodyPost_ret (res28a rfl _ _ (w.heap.size + 1) 28 _ (0, 0) rfl Ex rfl) rfl ⟨rfl, b9.grown Gx b9.size (fun k h => by cases h; omega)⟩
set_option maxHeartbeats 1000000 in
theorem near1 (k n a l s m n1 n2 d1 A L : Nat) (d : Int) (hA : A < 4294967296) (hL : L < 256) (hr : (k : Int).tmod 4 = 1) (hn1 : (n : Int).tmod 4294967296 = n1) (hn1' : n1 < 4294967296) (hn2 : (n : Int).tmod 65 = n2) (hn2' : n2 < 65) (hd1 : (IntKind.u64.wrap d).tmod 16 = d1) (hd1' : d1 < 16)
    (hof : ∀ W, Calls Try.prog 19 #[.int .u32 (a : Int), .int .u8 (l : Int)] W fun e w' => e = .returned (.agg #[.int .u32 (A : Int), .int .u8 (L : Int)]) ∧ Below W.heap.size W w') (w : World) :
    Calls Try.prog 8 #[.agg #[.int .u8 (k : Int), .int .u64 (n : Int), .int .i64 d, .int .u32 (a : Int), .int .u8 (l : Int), .int .u16 (s : Int), .int .u16 (m : Int)]] w fun e w' => e = .returned (.agg (Pt.cl ⟨2, 0, (d1 : Int), 0, 0, 0, m⟩).toArray) ∧ Below w.heap.size w w' := by
  have H := Lib.hid hof
  have B0 := Lib.hid (((Below.refl w.heap.size w).alloc (Nat.le_refl _) (.cells #[.int .u8 (k : Int), .int .u64 (n : Int), .int .i64 d, .int .u32 (a : Int), .int .u8 (l : Int), .int .u16 (s : Int), .int .u16 (m : Int)] 28)).alloc (by simp) (.cells #[.int .u8 0, .int .u64 0, .int .i64 0, .int .u32 0, .int .u8 0, .int .u16 0, .int .u16 0] 28))
  have R0 := heap_alloc_new w (.cells #[.int .u8 (k : Int), .int .u64 (n : Int), .int .i64 d, .int .u32 (a : Int), .int .u8 (l : Int), .int .u16 (s : Int), .int .u16 (m : Int)] 28)
  have R1' := heap_alloc_new (w.alloc (.cells #[.int .u8 (k : Int), .int .u64 (n : Int), .int .i64 d, .int .u32 (a : Int), .int .u8 (l : Int), .int .u16 (s : Int), .int .u16 (m : Int)] 28)) (.cells #[.int .u8 0, .int .u64 0, .int .i64 0, .int .u32 0, .int .u8 0, .int .u16 0, .int .u16 0] 28)
  rw [show (w.alloc (.cells #[.int .u8 (k : Int), .int .u64 (n : Int), .int .i64 d, .int .u32 (a : Int), .int .u8 (l : Int), .int .u16 (s : Int), .int .u16 (m : Int)] 28)).heap.size = w.heap.size + 1 by simp] at R1'
  have HR := Lib.hid (And.intro ((heap_alloc_old (w.alloc (.cells #[.int .u8 (k : Int), .int .u64 (n : Int), .int .i64 d, .int .u32 (a : Int), .int .u8 (l : Int), .int .u16 (s : Int), .int .u16 (m : Int)] 28)) (.cells #[.int .u8 0, .int .u64 0, .int .i64 0, .int .u32 0, .int .u8 0, .int .u16 0, .int .u16 0] 28) (by simp)).trans R0) R1')
  have w1 : IntKind.u64.wrap (n1 : Int) = n1 := by rw [wrap_u64]; omega
  have w2 : IntKind.u64.wrap (n2 : Int) = n2 := by rw [wrap_u64]; omega
  have w3 : IntKind.u64.wrap (d1 : Int) = d1 := by rw [wrap_u64]; omega
  have w4 : IntKind.i64.wrap (d1 : Int) = d1 := by rw [IntKind.wrap_i64]; omega
  have w5 : IntKind.u8.wrap (1 : Int) = 1 := rfl
  clear hof R0 R1'
  go_enter Try.func8, Try.ntmps8
  go_wp2_with (first
    | (go_at_call 19; (with_reducible refine (H.out _).mono ?_); (rintro e w6 ⟨rfl, B6⟩; have h7 := (B6.block w.heap.size (by simp; omega)).trans HR.out.1; have h8 := (B6.block (w.heap.size + 1) (by simp)).trans HR.out.2; have e7 : w.heap.size < w6.heap.size := (Array.getElem?_eq_some_iff.1 h7).1; have e8 : w.heap.size + 1 < w6.heap.size := (Array.getElem?_eq_some_iff.1 h8).1; have h9 := (heap_alloc_old w6 (.cells #[.int .u32 (A : Int), .int .u8 (L : Int)] 25) e8).trans h8; obtain ⟨⟨g0, g1, g2, g3, g4, g5, g6⟩, -⟩ := row7 h7; have b9 : Below w.heap.size w (w6.alloc (.cells #[.int .u32 (A : Int), .int .u8 (L : Int)] 25)) := (B0.out.trans (B6.mono (by simp; omega))).alloc (by omega) _; clear B6 h7 h8))
    | (with_reducible refine put28 rfl (.tmp 2) (.tmp 29) rfl (w.heap.size + 1) rfl h9 rfl ?_; intro wx Ex Gx))
  (try simp only [Exit.inBlock, Exit.then])
  exact bodyPost_ret (res28a rfl _ _ (w.heap.size + 1) 28 _ (0, 0) rfl Ex rfl) rfl ⟨rfl, b9.grown Gx b9.size (fun k h => by cases h; omega)⟩
set_option maxHeartbeats 1000000 in
theorem near2 (k n a l s m n1 n2 d1 A L : Nat) (d : Int) (hA : A < 4294967296) (hL : L < 256) (hr : (k : Int).tmod 4 = 2) (hn1 : (n : Int).tmod 4294967296 = n1) (hn1' : n1 < 4294967296) (hn2 : (n : Int).tmod 65 = n2) (hn2' : n2 < 65) (hd1 : (IntKind.u64.wrap d).tmod 16 = d1) (hd1' : d1 < 16)
    (hof : ∀ W, Calls Try.prog 19 #[.int .u32 (a : Int), .int .u8 (l : Int)] W fun e w' => e = .returned (.agg #[.int .u32 (A : Int), .int .u8 (L : Int)]) ∧ Below W.heap.size W w') (w : World) :
    Calls Try.prog 8 #[.agg #[.int .u8 (k : Int), .int .u64 (n : Int), .int .i64 d, .int .u32 (a : Int), .int .u8 (l : Int), .int .u16 (s : Int), .int .u16 (m : Int)]] w fun e w' => e = .returned (.agg (Pt.cl ⟨3, 0, (d1 : Int), A, L, s, m⟩).toArray) ∧ Below w.heap.size w w' := by
  have H := Lib.hid hof
  have B0 := Lib.hid (((Below.refl w.heap.size w).alloc (Nat.le_refl _) (.cells #[.int .u8 (k : Int), .int .u64 (n : Int), .int .i64 d, .int .u32 (a : Int), .int .u8 (l : Int), .int .u16 (s : Int), .int .u16 (m : Int)] 28)).alloc (by simp) (.cells #[.int .u8 0, .int .u64 0, .int .i64 0, .int .u32 0, .int .u8 0, .int .u16 0, .int .u16 0] 28))
  have R0 := heap_alloc_new w (.cells #[.int .u8 (k : Int), .int .u64 (n : Int), .int .i64 d, .int .u32 (a : Int), .int .u8 (l : Int), .int .u16 (s : Int), .int .u16 (m : Int)] 28)
  have R1' := heap_alloc_new (w.alloc (.cells #[.int .u8 (k : Int), .int .u64 (n : Int), .int .i64 d, .int .u32 (a : Int), .int .u8 (l : Int), .int .u16 (s : Int), .int .u16 (m : Int)] 28)) (.cells #[.int .u8 0, .int .u64 0, .int .i64 0, .int .u32 0, .int .u8 0, .int .u16 0, .int .u16 0] 28)
  rw [show (w.alloc (.cells #[.int .u8 (k : Int), .int .u64 (n : Int), .int .i64 d, .int .u32 (a : Int), .int .u8 (l : Int), .int .u16 (s : Int), .int .u16 (m : Int)] 28)).heap.size = w.heap.size + 1 by simp] at R1'
  have HR := Lib.hid (And.intro ((heap_alloc_old (w.alloc (.cells #[.int .u8 (k : Int), .int .u64 (n : Int), .int .i64 d, .int .u32 (a : Int), .int .u8 (l : Int), .int .u16 (s : Int), .int .u16 (m : Int)] 28)) (.cells #[.int .u8 0, .int .u64 0, .int .i64 0, .int .u32 0, .int .u8 0, .int .u16 0, .int .u16 0] 28) (by simp)).trans R0) R1')
  have w1 : IntKind.u64.wrap (n1 : Int) = n1 := by rw [wrap_u64]; omega
  have w2 : IntKind.u64.wrap (n2 : Int) = n2 := by rw [wrap_u64]; omega
  have w3 : IntKind.u64.wrap (d1 : Int) = d1 := by rw [wrap_u64]; omega
  have w4 : IntKind.i64.wrap (d1 : Int) = d1 := by rw [IntKind.wrap_i64]; omega
  have w5 : IntKind.u8.wrap (2 : Int) = 2 := rfl
  clear hof R0 R1'
  go_enter Try.func8, Try.ntmps8
  go_wp2_with (first
    | (go_at_call 19; (with_reducible refine (H.out _).mono ?_); (rintro e w6 ⟨rfl, B6⟩; have h7 := (B6.block w.heap.size (by simp; omega)).trans HR.out.1; have h8 := (B6.block (w.heap.size + 1) (by simp)).trans HR.out.2; have e7 : w.heap.size < w6.heap.size := (Array.getElem?_eq_some_iff.1 h7).1; have e8 : w.heap.size + 1 < w6.heap.size := (Array.getElem?_eq_some_iff.1 h8).1; have h9 := (heap_alloc_old w6 (.cells #[.int .u32 (A : Int), .int .u8 (L : Int)] 25) e8).trans h8; obtain ⟨⟨g0, g1, g2, g3, g4, g5, g6⟩, -⟩ := row7 h7; have b9 : Below w.heap.size w (w6.alloc (.cells #[.int .u32 (A : Int), .int .u8 (L : Int)] 25)) := (B0.out.trans (B6.mono (by simp; omega))).alloc (by omega) _; clear B6 h7 h8))
    | (with_reducible refine put28 rfl (.tmp 2) (.tmp 42) rfl (w.heap.size + 1) rfl h9 rfl ?_; intro wx Ex Gx))
  (try simp only [Exit.inBlock, Exit.then])
  exact bodyPost_ret (res28a rfl _ _ (w.heap.size + 1) 28 _ (0, 0) rfl Ex rfl) rfl ⟨rfl, b9.grown Gx b9.size (fun k h => by cases h; omega)⟩
set_option maxHeartbeats 1000000 in
theorem near3 (k n a l s m n1 n2 d1 A L : Nat) (d : Int) (hA : A < 4294967296) (hL : L < 256) (hr : (k : Int).tmod 4 = 3) (hn1 : (n : Int).tmod 4294967296 = n1) (hn1' : n1 < 4294967296) (hn2 : (n : Int).tmod 65 = n2) (hn2' : n2 < 65) (hd1 : (IntKind.u64.wrap d).tmod 16 = d1) (hd1' : d1 < 16)
    (hof : ∀ W, Calls Try.prog 19 #[.int .u32 (a : Int), .int .u8 (l : Int)] W fun e w' => e = .returned (.agg #[.int .u32 (A : Int), .int .u8 (L : Int)]) ∧ Below W.heap.size W w') (w : World) :
    Calls Try.prog 8 #[.agg #[.int .u8 (k : Int), .int .u64 (n : Int), .int .i64 d, .int .u32 (a : Int), .int .u8 (l : Int), .int .u16 (s : Int), .int .u16 (m : Int)]] w fun e w' => e = .returned (.agg (Pt.cl ⟨4, n2, 0, A, L, s, 0⟩).toArray) ∧ Below w.heap.size w w' := by
  have H := Lib.hid hof
  have B0 := Lib.hid (((Below.refl w.heap.size w).alloc (Nat.le_refl _) (.cells #[.int .u8 (k : Int), .int .u64 (n : Int), .int .i64 d, .int .u32 (a : Int), .int .u8 (l : Int), .int .u16 (s : Int), .int .u16 (m : Int)] 28)).alloc (by simp) (.cells #[.int .u8 0, .int .u64 0, .int .i64 0, .int .u32 0, .int .u8 0, .int .u16 0, .int .u16 0] 28))
  have R0 := heap_alloc_new w (.cells #[.int .u8 (k : Int), .int .u64 (n : Int), .int .i64 d, .int .u32 (a : Int), .int .u8 (l : Int), .int .u16 (s : Int), .int .u16 (m : Int)] 28)
  have R1' := heap_alloc_new (w.alloc (.cells #[.int .u8 (k : Int), .int .u64 (n : Int), .int .i64 d, .int .u32 (a : Int), .int .u8 (l : Int), .int .u16 (s : Int), .int .u16 (m : Int)] 28)) (.cells #[.int .u8 0, .int .u64 0, .int .i64 0, .int .u32 0, .int .u8 0, .int .u16 0, .int .u16 0] 28)
  rw [show (w.alloc (.cells #[.int .u8 (k : Int), .int .u64 (n : Int), .int .i64 d, .int .u32 (a : Int), .int .u8 (l : Int), .int .u16 (s : Int), .int .u16 (m : Int)] 28)).heap.size = w.heap.size + 1 by simp] at R1'
  have HR := Lib.hid (And.intro ((heap_alloc_old (w.alloc (.cells #[.int .u8 (k : Int), .int .u64 (n : Int), .int .i64 d, .int .u32 (a : Int), .int .u8 (l : Int), .int .u16 (s : Int), .int .u16 (m : Int)] 28)) (.cells #[.int .u8 0, .int .u64 0, .int .i64 0, .int .u32 0, .int .u8 0, .int .u16 0, .int .u16 0] 28) (by simp)).trans R0) R1')
  have w1 : IntKind.u64.wrap (n1 : Int) = n1 := by rw [wrap_u64]; omega
  have w2 : IntKind.u64.wrap (n2 : Int) = n2 := by rw [wrap_u64]; omega
  have w3 : IntKind.u64.wrap (d1 : Int) = d1 := by rw [wrap_u64]; omega
  have w4 : IntKind.i64.wrap (d1 : Int) = d1 := by rw [IntKind.wrap_i64]; omega
  have w5 : IntKind.u8.wrap (3 : Int) = 3 := rfl
  clear hof R0 R1'
  go_enter Try.func8, Try.ntmps8
  go_wp2_with (first
    | (go_at_call 19; (with_reducible refine (H.out _).mono ?_); (rintro e w6 ⟨rfl, B6⟩; have h7 := (B6.block w.heap.size (by simp; omega)).trans HR.out.1; have h8 := (B6.block (w.heap.size + 1) (by simp)).trans HR.out.2; have e7 : w.heap.size < w6.heap.size := (Array.getElem?_eq_some_iff.1 h7).1; have e8 : w.heap.size + 1 < w6.heap.size := (Array.getElem?_eq_some_iff.1 h8).1; have h9 := (heap_alloc_old w6 (.cells #[.int .u32 (A : Int), .int .u8 (L : Int)] 25) e8).trans h8; obtain ⟨⟨g0, g1, g2, g3, g4, g5, g6⟩, -⟩ := row7 h7; have b9 : Below w.heap.size w (w6.alloc (.cells #[.int .u32 (A : Int), .int .u8 (L : Int)] 25)) := (B0.out.trans (B6.mono (by simp; omega))).alloc (by omega) _; clear B6 h7 h8))
    | (with_reducible refine put28 rfl (.tmp 2) (.tmp 49) rfl (w.heap.size + 1) rfl h9 rfl ?_; intro wx Ex Gx))
  (try simp only [Exit.inBlock, Exit.then])
  exact bodyPost_ret (res28a rfl _ _ (w.heap.size + 1) 28 _ (0, 0) rfl Ex rfl) rfl ⟨rfl, b9.grown Gx b9.size (fun k h => by cases h; omega)⟩
theorem near_any (x : Pt) (hx : x.Fits) (w : World) : Calls Try.prog 8 #[.agg x.cl.toArray] w fun e w' => e = .returned (.agg x.near.cl.toArray) ∧ Below w.heap.size w w' := by
  have h1 := hx.n
  have h4 := Pre.top_lt (n := x.L) hx.a
  have h5 := Pre.len_le x.L
  have h6 : 0 ≤ x.Nd % 16 := Int.emod_nonneg _ (by decide)
  have h7 : x.Nd % 16 < 16 := Int.emod_lt_of_pos _ (by decide)
  have hof := fun W => Pre.rof_any x.A x.L hx.a (by have := hx.l; omega) W
  have e1 : (x.N : Int).tmod 4294967296 = ((x.N % 4294967296 : Nat) : Int) := by rw [Int.tmod_eq_emod_of_nonneg (by omega)]; omega
  have e2 : (x.N : Int).tmod 65 = ((x.N % 65 : Nat) : Int) := by rw [Int.tmod_eq_emod_of_nonneg (by omega)]; omega
  have e3 : (IntKind.u64.wrap x.Nd).tmod 16 = (((x.Nd % 16).toNat : Nat) : Int) := by rw [wrap_u64, Int.tmod_eq_emod_of_nonneg (by omega)]; omega
  have e4 : (x.K : Int).tmod 4 = ((x.K % 4 : Nat) : Int) := by rw [Int.tmod_eq_emod_of_nonneg (by omega)]; omega
  show Calls Try.prog 8 #[.agg #[.int .u8 (x.K : Int), .int .u64 (x.N : Int), .int .i64 x.Nd, .int .u32 (x.A : Int), .int .u8 (x.L : Int), .int .u16 (x.Sq : Int), .int .u16 (x.M : Int)]] w _
  unfold Pt.near
  have hc : x.K % 4 = 0 ∨ x.K % 4 = 1 ∨ x.K % 4 = 2 ∨ x.K % 4 = 3 := by omega
  rcases hc with hc | hc | hc | hc
  · rw [if_pos hc]; rw [hc] at e4
    exact near0 x.K x.N x.A x.L x.Sq x.M _ _ _ _ _ x.Nd h4 (by omega) e4 e1 (by omega) e2 (by omega) e3 (by omega) hof w
  · rw [if_neg (by omega), if_pos hc]; rw [hc] at e4
    exact near1 x.K x.N x.A x.L x.Sq x.M _ _ _ _ _ x.Nd h4 (by omega) e4 e1 (by omega) e2 (by omega) e3 (by omega) hof w
  · rw [if_neg (by omega), if_neg (by omega), if_pos hc]; rw [hc] at e4
    exact near2 x.K x.N x.A x.L x.Sq x.M _ _ _ _ _ x.Nd h4 (by omega) e4 e1 (by omega) e2 (by omega) e3 (by omega) hof w
  · rw [if_neg (by omega), if_neg (by omega), if_neg (by omega)]; rw [hc] at e4
    exact near3 x.K x.N x.A x.L x.Sq x.M _ _ _ _ _ x.Nd h4 (by omega) e4 e1 (by omega) e2 (by omega) e3 (by omega) hof w
/-- Bytes with their sum, by the document. -/
theorem packet_any (w : World) (A : Option Addr) (m cap B : Nat) (l : List UInt8) (hm : m = l.length) (hl : m ≤ 100000) (hr : Rd w B A l) (hB : B ≤ w.heap.size) (hA : A = none → cap = 0) :
    Calls Try.prog 14 #[.slice A m cap] w (CoinOwn w (sealB l)) := by
  have ht : ∀ W, Rd W W.heap.size A l → Calls Try.prog 17 #[.slice A m cap] W (TailSaid W l) := fun W h => by rw [hm]; exact tail_any A cap W.heap.size l W (by omega) h
  have hY : sealB l = l ++ tailb (Tal.more 0 l) := rfl
  obtain ⟨Y, hYe⟩ : ∃ Y, Y = sealB l := ⟨_, rfl⟩
  rw [← hYe] at hY ⊢
  have hml : (tailb (Tal.more 0 l)).length = 4 := rfl
  unfold TailSaid at ht
  generalize tailb (Tal.more 0 l) = T at *
  have HX := Lib.hid (And.intro ht (And.intro hr (And.intro hm (And.intro hY hml))))
  clear ht hr hm hY hYe hml
  go_enter Try.func14, Try.ntmps14
  go_wp2_with (first
    | (at_builtin; (with_reducible refine app_any rfl (.const (.slice none 0 0)) (.tmp 3) rfl w.heap.size (.slice none 0 0) [] l A m cap B rfl rfl (Own.nil _ _) HX.out.2.1 HX.out.2.2.1 hA (by have := HX.out.2.2.1; simp; omega) (Nat.le_refl _) w.heap.size w (Below.refl _ _) (Nat.le_refl _) ?_); (intro v2 w2 O2 B2 G2; obtain ⟨A2, c2, hv2, -, -, -⟩ := O2.form; rw [List.nil_append, ← HX.out.2.2.1] at hv2; subst hv2; have HO := Lib.hid (And.intro O2 (And.intro B2 ((HX.out.2.1.more hB).below B2 (Nat.le_refl _)))); clear O2 B2 G2))
    | (go_at_call 17; (with_reducible refine (HX.out.1 _ (HO.out.2.2.more HO.out.2.1.size)).mono ?_); (rintro e w3 ⟨rfl, R3, B3⟩; have HP := Lib.hid (And.intro (HO.out.1.kept B3) (And.intro R3.rd (And.intro (HO.out.2.1.trans (B3.mono HO.out.2.1.size)) (Nat.le_trans HO.out.2.1.size B3.size)))); clear R3 B3))
    | (at_builtin; (with_reducible refine app_any rfl (.tmp 4) (.tmp 6) rfl w.heap.size (.slice A2 m c2) ([] ++ l) T (some ⟨w2.heap.size, 0, none⟩) 4 4 _ rfl rfl HP.out.1 HP.out.2.1 HX.out.2.2.2.2.symm (fun h => by cases h) (by have := HX.out.2.2.1; have := HX.out.2.2.2.2; simp; omega) HP.out.2.2.2 w.heap.size w HP.out.2.2.1 (Nat.le_refl _) ?_); (intro v5 w5 O5 B5 G5; have HQ := Lib.hid (And.intro O5 B5); clear O5 B5 G5)))
  go_ret
  exact ⟨v5, rfl, by have h := HQ.out.1; rw [HX.out.2.2.2.1]; exact h, HQ.out.2⟩
end Go.Proofs.Ytecfblkagbdjlaa.Msg
