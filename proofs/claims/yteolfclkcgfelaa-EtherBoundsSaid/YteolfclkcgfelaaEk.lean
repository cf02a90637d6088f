/- A law's ether: new, and behind each call; awake. -/
import Derived.Test.YteolfclkcgfelaaEj
import Derived.Test.YteolfclkcgfelaaEg
import Derived.Great.Ranges
import Derived.Lib.SlBytesConst
namespace Go.Proofs.Yteolfclkcgfelaa.Eth
open Go.ChangeShapes Go.WideShapes Go.ChangeAt Go.RowKit
open Coin (Rd Own b8 Row)
set_option maxRecDepth 8000
set_option linter.unusedVariables false
variable {lo : Nat} {w : World} {q : Nat} {H : Nat → Nat → Bool} {l : List Pk} {v : Value}

def H0 : Nat → Nat → Bool := fun _ _ => false
def z29 : Array Value := (hc H0 ++ [Value.slice none 0 0]).toArray
theorem build29 (W : World) : (Instr.build 29 #[]).run Try.prog W = .ok (.agg z29) W := run_build W 29 #[] z29 (by kernel_rfl)
theorem arm_build {ops : Array Oper} {rest : List Oper} {o : Oper} {a : Act} {Q : Exit → Act → World → Prop} (hg : o.guard = none) (ho : o.op = .build 29 #[]) (h : wpList Try.prog ops Q rest (a.put o.dst (.agg z29)) w) : wpList Try.prog ops Q (o :: rest) a w := by
  refine wpList_plain hg fun K hK => ?_
  unfold Oper.wp execOp
  have e : (Array.map (fun x : Nat × Operand => (x.1, a.eval x.2)) #[]) = #[] := by simp
  simp only [ho, e, build29, Sem.run_bind, Sem.run_pure, Result.andThen_ok]
  exact hK _ _ h
theorem arm_box {ops : Array Oper} {rest : List Oper} {o : Oper} {a : Act} {Q : Exit → Act → World → Prop} (hg : o.guard = none) (x : Operand) (ho : o.op = .box 29 x) (hx : a.eval x = .agg z29)
    (h : wpList Try.prog ops Q rest (a.put o.dst (.pointer (some ⟨w.heap.size, 0, none⟩))) (w.alloc (.cells z29 29))) : wpList Try.prog ops Q (o :: rest) a w := by
  refine wpList_plain hg fun K hK => ?_
  unfold Oper.wp execOp
  simp only [ho, hx, Sem.run_bind, Instr.box, newVar, newRow, run_newObj_alloc, Sem.run_pure, Result.andThen_ok, Value.cells]
  exact hK _ _ h
/-- A law's ether, in a law that was called at w0. -/
structure LW (lo : Nat) (w0 w : World) (q : Nat) (H : Nat → Nat → Bool) (l : List Pk) (v : Value) : Prop where
  e : EAt lo w q H l v
  b : Below lo w0 w
  q : lo ≤ q
  le : lo ≤ w.heap.size
theorem LW.new {w0 : World} (hb : Below lo w0 w) (hl : lo ≤ w.heap.size) : LW lo w0 (w.alloc (.cells z29 29)) w.heap.size H0 [] (.slice none 0 0) := by
  have B := (Below.refl w.heap.size w).alloc (Nat.le_refl _) (.cells z29 29)
  exact ⟨⟨heap_alloc_new w _, PSl.nil _ _⟩, hb.trans (B.mono hl), hl, Nat.le_trans hl B.size⟩
theorem LW.step {w0 w' : World} (h : LW lo w0 w q H l v) (hb : Below w.heap.size w w') : LW lo w0 w' q H l v := ⟨h.e.below hb, h.b.trans (hb.mono h.le), h.q, Nat.le_trans h.le hb.size⟩
theorem LW.ef {w0 w' : World} {H' : Nat → Nat → Bool} {l' : List Pk} {v' : Value} (h : LW lo w0 w q H l v) (E : EAt lo w' q H' l' v') (F : EF w w' q v v') : LW lo w0 w' q H' l' v' :=
  ⟨E, h.b.trans (F.below h.le h.q fun g hg => (h.e.sl.ty hg).1), h.q, Nat.le_trans h.le F.size⟩
/-- A row of one byte, marked or not. -/
theorem lit_rd (w : World) (b : UInt8) (fr : Nat × Nat) : Rd (w.alloc (.cells #[b8 b] 5 fr)) (w.heap.size + 1) (some ⟨w.heap.size, 0, none⟩) [b] := fun h0 => ⟨_, rfl, Nat.lt_succ_self _, fun j hj => by
  have hj : j < 1 := hj
  obtain rfl : j = 0 := by omega
  rw [Coin.zero_add', cell_of_row _ w.heap.size 0 _ 5 fr (heap_alloc_new w _)]
  rfl⟩
theorem join_lw {w0 : World} (h : LW lo w0 w q H l v) (a b : Nat) (ha : a < 16) (hb : b < 16) (hab : a ≠ b) (on : Bool) : Calls Try.prog 8 #[.pointer (some ⟨q, 0, none⟩), .int .i64 (a : Int), .int .i64 (b : Int), .bool on] w fun e w' => e = .returned (.int .i64 0) ∧ LW lo w0 w' q (upd H a b on) l v ∧ EF w w' q v v :=
  (join_any h.e a b ha hb hab on).mono fun e w' ⟨h1, h2, h3⟩ => ⟨h1, h.ef h2 h3, h3⟩
theorem send_lw {w0 : World} (h : LW lo w0 w q H l v) (a : Nat) (ha : a < 16) (A : Option Addr) (c Bx : Nat) (d : List UInt8) (hr : Rd w Bx A d) (hA : A = none → c = 0) (hAn : A = none → d = []) (hdl : d.length ≤ 100000) (hm : l.length ≤ 4000) :
    Calls Try.prog 9 #[.pointer (some ⟨q, 0, none⟩), .int .i64 (a : Int), .slice A d.length c] w fun e w' => e = .returned (.int .i64 ((snt H a d 16).length : Nat)) ∧ ∃ v', LW lo w0 w' q H (most (l ++ snt H a d 16)) v' ∧ EF w w' q v v' :=
  (Send_any h.e h.le a ha A c Bx d hr hA hAn hdl hm).mono fun e w' ⟨v', h1, h2, h3, h4⟩ => ⟨h1, v', h.ef h2 h3, h3⟩
def H1 : Nat → Nat → Bool := upd H0 0 1 true
theorem awake_any (u : World) : Calls Try.prog 7 #[] u fun e w' => e = .returned (.bool true) ∧ Below u.heap.size u w' := by
  have L0 := Lib.hid (LW.new (Below.refl u.heap.size u) (Nat.le_refl _))
  have HJ : Hid (∀ W q, LW u.heap.size u W q H0 [] (.slice none 0 0) → Calls Try.prog 8 #[.pointer (some ⟨q, 0, none⟩), .int .i64 0, .int .i64 1, .bool true] W fun e w' => e = .returned (.int .i64 0) ∧ LW u.heap.size u w' q H1 [] (.slice none 0 0)) := Lib.hid fun W q h =>
    (join_lw h 0 1 (by decide) (by decide) (by decide) true).mono fun e w' ⟨h1, h2, h3⟩ => ⟨h1, h2⟩
  have HS : Hid (∀ W q g, LW u.heap.size u W q H1 [] (.slice none 0 0) → Rd W (g + 1) (some ⟨g, 0, none⟩) [112] → Calls Try.prog 9 #[.pointer (some ⟨q, 0, none⟩), .int .i64 0, .slice (some ⟨g, 0, none⟩) 1 1] W fun e w' => e = .returned (.int .i64 1) ∧ ∃ l v', LW u.heap.size u w' q H1 l v') := Lib.hid fun W q g h hr => by
    have hl : (snt H1 0 [112] 16).length = 1 := by decide +kernel
    refine (send_lw h 0 (by decide) (some ⟨g, 0, none⟩) 1 (g + 1) [112] hr (fun h => by cases h) (fun h => by cases h) (by decide) (by decide)).mono ?_
    rintro e w' ⟨h1, v', h2, _⟩
    exact ⟨by rw [h1, hl]; rfl, _, v', h2⟩
  have HH : Hid (∀ W q l v', LW u.heap.size u W q H1 l v' → Calls Try.prog 15 #[.pointer (some ⟨q, 0, none⟩), .int .i64 1, .int .i64 0] W fun e w' => e = .returned (.bool true) ∧ W = w') := Lib.hid fun W q l v' h => hears_two h.e 1 0 (by decide) (by decide)
  have HR : Hid (∀ W : World, Rd (W.alloc (.cells #[.int .u8 112] 5 (1, 2))) (W.heap.size + 1) (some ⟨W.heap.size, 0, none⟩) [112]) := Lib.hid fun W => lit_rd W 112 (1, 2)
  have kc := fun (w : World) (C : Array Value) (n c : Nat) => Lib.run_convert_bytes_const (P := Try.prog) w 37 5 C n c Try.underlying37 Try.underlying5
  go_enter Try.func7, Try.ntmps7
  go_wp2_with (first
    | (refine arm_build rfl rfl ?_)
    | (refine arm_box rfl _ rfl rfl ?_)
    | (go_at_call 8; (with_reducible refine (HJ.out _ _ L0.out).mono ?_); rintro e w1 ⟨rfl, h1⟩; have L1 := Lib.hid h1; clear h1)
    | (go_at_call 9; (with_reducible refine (HS.out _ _ _ (L1.out.step ((Below.refl _ _).alloc (Nat.le_refl _) _)) (HR.out _)).mono ?_); rintro e w2 ⟨rfl, l2, v2, h2⟩; have L2 := Lib.hid h2; clear h2)
    | (go_at_call 15; (with_reducible refine (HH.out _ _ _ _ L2.out).mono ?_); rintro e w3 ⟨rfl, rfl⟩))
  go_ret
  exact ⟨rfl, L2.out.b⟩
end Go.Proofs.Yteolfclkcgfelaa.Eth
