/- Who may hear whom; what is handed over, and told, is one's own. -/
import Derived.Test.YteolfclkcgfelaaEl
namespace Go.Proofs.Yteolfclkcgfelaa.Eth
open Go.ChangeShapes Go.WideShapes Go.ChangeAt Go.RowKit
open Coin (Rd Own b8 Row)
set_option maxRecDepth 8000
set_option linter.unusedVariables false
variable {lo : Nat} {w : World} {q : Nat} {H : Nat → Nat → Bool} {l : List Pk} {v : Value}

/-- A guarded operation that is done; one that isn't. -/
theorem wpList_yes {P : Program} {ops : Array Oper} {rest : List Oper} {o : Oper} {a : Act} {Q : Exit → Act → World → Prop} {gd : Nat × Bool} (hg : o.guard = some gd) (hw : Region.wanted o (yielded ops a.tmps) = true)
    (h : ∀ K : Act → World → Prop, (∀ a w, wpList P ops Q rest a w → K a w) → o.wp P a w K Q) : wpList P ops Q (o :: rest) a w :=
  wpList_step fun K hK => by rw [if_pos hw]; exact h K hK
theorem wpList_any {P : Program} {ops : Array Oper} {rest : List Oper} {o : Oper} {a : Act} {Q : Exit → Act → World → Prop} (hw : Region.wanted o (yielded ops a.tmps) = true)
    (h : ∀ K : Act → World → Prop, Hid (∀ a w, wpList P ops Q rest a w → K a w) → o.wp P a w K Q) : wpList P ops Q (o :: rest) a w :=
  wpList_step fun K hK => by rw [if_pos hw]; exact h K (Lib.hid hK)
theorem wpList_no {P : Program} {ops : Array Oper} {rest : List Oper} {o : Oper} {a : Act} {Q : Exit → Act → World → Prop} {gd : Nat × Bool} (hg : o.guard = some gd) (hw : Region.wanted o (yielded ops a.tmps) = false)
    (h : wpList P ops Q rest (a.put o.dst undef) w) : wpList P ops Q (o :: rest) a w := wpList_skip hw h
theorem own_first {B : Nat} {u : Value} {d : List UInt8} (h : Own w B u d) (h0 : 0 < d.length) (x : Int) (hx : b8 d[0] = .int .u8 x) : ∃ g c, u = .slice (some ⟨g, 0, none⟩) d.length c ∧ w.cell? ⟨g, 0, none⟩ = some (.int .u8 x) ∧ (∀ i, w.frozen? ⟨g, i, none⟩ = false) ∧ B ≤ g ∧ g < w.heap.size ∧ (∃ cur, w.heap[g]? = some (.cells cur 5 (0, 0))) ∧ Rd w w.heap.size (some ⟨g, 0, none⟩) d := by
  have hh := h
  obtain ⟨A, c, rfl, hr, _, _⟩ := hh.form
  obtain ⟨_, ⟨_, h1⟩ | ⟨g, cap, cur, e, hB, hg, _⟩⟩ := h
  · omega
  · injection e with e1 e2 e3
    subst e1 e3
    obtain ⟨ad, e4, _, e5⟩ := hr h0
    cases e4
    refine ⟨g, c, rfl, ?_, fun i => frozen_of_row w g i _ 5 hg, hB, (Array.getElem?_eq_some_iff.1 hg).1, ⟨cur, hg⟩, hr⟩
    have := e5 0 h0
    rw [Coin.zero_add', hx] at this
    exact this
theorem EAt.low (h : EAt lo w q H l v) {k : Nat} (hk : k < lo) (hq : k ≠ q) (i : Nat) (u : Value) : EAt lo (w.setCell ⟨k, i, none⟩ u) q H l v :=
  ⟨(put_ne i u (fun e => hq e.symm)).trans h.row, h.sl.keep fun g hg _ _ => put_ne i u (by omega)⟩
theorem EAt.raise {L : Nat} (h : EAt lo w q H [] (.slice none 0 0)) : EAt L w q H [] (.slice none 0 0) := ⟨h.row, PSl.nil _ _⟩
/-- A slot on a list of one. -/
theorem plc_one (i : Int) : plc i 1 = 0 := by unfold plc; exact Nat.mod_one _
theorem H0_snt (a : Nat) (d : List UInt8) : snt H0 a d 16 = [] := snt_none H0 a d fun _ _ => rfl
/-- A law's ether of which no packet's block lies below L. -/
structure LX (lo L : Nat) (w0 w : World) (q : Nat) (H : Nat → Nat → Bool) (l : List Pk) (v : Value) : Prop where
  e : EAt L w q H l v
  b : Below lo w0 w
  q : lo ≤ q
  le : lo ≤ L
  sz : L ≤ w.heap.size
theorem LX.of {w0 : World} (h : LW lo w0 w q H [] (.slice none 0 0)) : LX lo w.heap.size w0 w q H [] (.slice none 0 0) := ⟨h.e.raise, h.b, h.q, h.le, Nat.le_refl _⟩
theorem LX.step {L : Nat} {w0 w' : World} (h : LX lo L w0 w q H l v) (hb : Below w.heap.size w w') : LX lo L w0 w' q H l v := ⟨h.e.below hb, h.b.trans (hb.mono (Nat.le_trans h.le h.sz)), h.q, h.le, Nat.le_trans h.sz hb.size⟩
theorem LX.ef {L : Nat} {w0 w' : World} {H' : Nat → Nat → Bool} {l' : List Pk} {v' : Value} (h : LX lo L w0 w q H l v) (E : EAt L w' q H' l' v') (F : EF w w' q v v') : LX lo L w0 w' q H' l' v' :=
  ⟨E, h.b.trans (F.below (Nat.le_trans h.le h.sz) h.q fun g hg => Nat.le_trans h.le (h.e.sl.ty hg).1), h.q, h.le, Nat.le_trans h.sz F.size⟩
theorem LX.low {L : Nat} {w0 : World} (h : LX lo L w0 w q H l v) {k : Nat} (h1 : lo ≤ k) (h2 : k < L) (h3 : k ≠ q) (i : Nat) (u : Value) : LX lo L w0 (w.setCell ⟨k, i, none⟩ u) q H l v :=
  ⟨h.e.low h2 h3 i u, h.b.setCell (p := ⟨k, i, none⟩) h1 u, h.q, h.le, by simpa [World.setCell] using h.sz⟩
/-- Out of a node that nobody hears, or out of none, nothing goes. -/
theorem send_none {L : Nat} {w0 : World} (h : LX lo L w0 w q H0 [] (.slice none 0 0)) (a : Int) (A : Option Addr) (c Bx : Nat) (d : List UInt8) (hr : Rd w Bx A d) (hA : A = none → c = 0) (hAn : A = none → d = []) (hdl : d.length ≤ 100000) :
    Calls Try.prog 9 #[.pointer (some ⟨q, 0, none⟩), .int .i64 a, .slice A d.length c] w fun e w' => e = .returned (.int .i64 0) ∧ ∃ v', LX lo L w0 w' q H0 [] v' ∧ EF w w' q (.slice none 0 0) v' := by
  cases hn : isN a with
  | false =>
    refine (Send_not w q a hn A d.length c).mono ?_
    rintro e w' ⟨rfl, rfl⟩
    exact ⟨rfl, _, h, EF.of q _ (Below.refl _ _)⟩
  | true =>
    obtain ⟨a, rfl, ha⟩ := isN_of hn
    refine (Send_any h.e h.sz a ha A c Bx d hr hA hAn hdl (by simp)).mono ?_
    rintro e w' ⟨v', h1, h2, h3, h4⟩
    rw [H0_snt] at h1 h2
    exact ⟨h1, v', h.ef h2 h3, h3⟩
theorem row_hears (h : w.heap[q]? = some (.cells (hc H ++ [v]).toArray 29 (0, 0))) {a b : Nat} (ha : a < 16) (hb : b < 16) : w.cell? ⟨q, a * 16 + b, none⟩ = some (.bool (H a b)) := by
  rw [cell_of_row w q _ _ 29 (0, 0) h]
  have h1 : a * 16 + b < 256 := by omega
  rw [List.getElem?_toArray, List.getElem?_append_left (by rw [hc_len]; exact h1)]
  unfold hc
  rw [List.getElem?_map, List.getElem?_range h1]
  simp only [Option.map_some]
  rw [show (a * 16 + b) / 16 = a by omega, show (a * 16 + b) % 16 = b by omega]
theorem hears_row (h : w.heap[q]? = some (.cells (hc H ++ [v]).toArray 29 (0, 0))) (a b : Nat) (ha : a < 16) (hb : b < 16) : Calls Try.prog 15 #[.pointer (some ⟨q, 0, none⟩), .int .i64 (a : Int), .int .i64 (b : Int)] w fun e w' => e = .returned (.bool (H a b)) ∧ w = w' := by
  have c1 := isN_nat ha ▸ node_any (a : Int) w
  have c2 := isN_nat hb ▸ node_any (b : Int) w
  have p := row_hears h ha hb
  have ha' : (a : Int) < 16 := by omega
  have hb' : (b : Int) < 16 := by omega
  clear h
  go_enter Try.func15, Try.ntmps15
  go_wp2_with (first
    | (go_at_call 16; (with_reducible refine c1.mono ?_); rintro e w1 ⟨rfl, rfl⟩)
    | (go_at_call 16; (with_reducible refine c2.mono ?_); rintro e w1 ⟨rfl, rfl⟩))
  go_ret
  exact ⟨rfl, rfl⟩
theorem hears_zero (h : w.heap[q]? = some (.cells (hc H0 ++ [v]).toArray 29 (0, 0))) (a b : Int) : Calls Try.prog 15 #[.pointer (some ⟨q, 0, none⟩), .int .i64 a, .int .i64 b] w fun e w' => e = .returned (.bool false) ∧ w = w' := by
  by_cases hn : isN a = true ∧ isN b = true
  · obtain ⟨a, rfl, ha⟩ := isN_of hn.1
    obtain ⟨b, rfl, hb⟩ := isN_of hn.2
    exact hears_row h a b ha hb
  · exact hears_not w q a b hn
end Go.Proofs.Yteolfclkcgfelaa.Eth
