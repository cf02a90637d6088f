/- A new volume begins. -/
import Derived.Test.YtdbhgkbmbbjpdaaGreatDoorNo
import Derived.Lib.AppendZeros
namespace Go.Proofs.YtdbhgkbmbbjpdaaGreatDoor.Chr
variable {lo : Nat}
open Go.ChangeShapes Go.WideShapes Go.ChangeAt Go.RowKit
open Shf (S str)
open Coin (Rd Row Own sz coin got Pur takeV endV CoinSaid)
open Frm (pack err size kind cnt body noItem itemV OneSaid)
set_option maxRecDepth 8000
set_option linter.unusedVariables false
open Shf (Tag Ext Rep M RdN)
open Coin (CoinOwn)
theorem own_grown {w w' : World} {B X : Nat} {v : Value} {l : S} (h : Own w B v l) (G : w.grownBy w' (some X)) (hX : NotTy w X 5) : Own w' B v l := by
  obtain ⟨h0, h | ⟨g, cap, cur, e, hb, hg, r⟩⟩ := h
  · exact ⟨h0, .inl h⟩
  · exact ⟨h0, .inr ⟨g, cap, cur, e, hb, (G.block g (Array.getElem?_eq_some_iff.1 hg).1 (fun e => by injection e with e; rw [e] at hg; exact hX _ hg)).trans hg, r⟩⟩
theorem row_grown {w w' : World} {x X : Nat} {t : TypeId} {cur : Array Value} (h : w.heap[x]? = some (.cells cur t (0, 0))) (G : w.grownBy w' (some X)) (hX : NotTy w X t) : w'.heap[x]? = some (.cells cur t (0, 0)) :=
  (G.block x (Array.getElem?_eq_some_iff.1 h).1 (fun e => by injection e with e; rw [e] at h; exact hX _ h)).trans h
theorem rdn_own {w : World} {T : Nat → Tag} {B n c : Nat} {A : Option Addr} {l : S} (h : Own w B (.slice A n c) l) (hT : ∀ b, B ≤ b → T b = .none) : RdN w T A l := by
  have hh := h
  obtain ⟨h0, ⟨e, hn⟩ | ⟨g, cap, cur, e, hb, hg, r⟩⟩ := h
  · exact ⟨fun h => absurd h (by omega), fun h => absurd h (by omega)⟩
  · injection e with e1 e2 e3
    subst e1
    subst e2
    refine ⟨fun h0 => ⟨_, rfl, fun j hj => ?_⟩, fun h0 ad e => ?_⟩
    · rw [Shf.zero_add', World.ownsRow.cellAt hh j (by omega), List.getElem?_map, List.getElem?_eq_getElem hj]
      rfl
    · injection e with e
      rw [← e]
      exact ⟨hT g hb, (Array.getElem?_eq_some_iff.1 hg).1⟩
theorem vName_le (n : Nat) (h : n < 100) : (vName n).length ≤ 1000 := by
  have : ∀ n : Fin 100, (vName n.1).length ≤ 1000 := by decide +kernel
  exact this ⟨n, h⟩
theorem titleB_len (a b : Nat) : (titleB a b).length ≤ 1000 := by
  unfold titleB
  rw [Frm.length_pack]
  have h1 := coins_len [a, b]
  have h2 := Coin.sz_le (coins [a, b]).length
  simp only [List.length_cons, List.length_nil] at h1
  omega
theorem next_lt {c : CD} (hs : c.Small) : c.next < 2000000000 := by
  unfold CD.next
  split
  · have := hs.hU; omega
  · rename_i d hd
    have := hs.v d (List.mem_of_getLast? hd)
    unfold VolD.next
    omega
structure Kq (lo : Nat) (w : World) (T : Nat → Tag) (w' : World) (T' : Nat → Tag) : Prop where
  size : w.heap.size ≤ w'.heap.size
  tag : ∀ b, b < w.heap.size → T b = .none → T' b = .none
  block : ∀ b, b < w.heap.size → T b = .none → NotTy w b 82 → NotTy w b 60 → NotTy w b 75 → w'.heap[b]? = w.heap[b]?
  os : w'.os = w.os
  tape : w'.tape = w.tape
  output : w'.output = w.output
  low : ∀ b, b < w.heap.size → T b = .none → b < lo → w'.heap[b]? = w.heap[b]?
theorem kq_kp {w w' : World} {T T' : Nat → Tag} (h : Kp w T w' T') : Kq lo w T w' T' := ⟨h.size, fun b hb hn => (h.block b hb hn).2, fun b hb hn _ _ _ => (h.block b hb hn).1, h.os, h.tape, h.output, fun b hb hn _ => (h.block b hb hn).1⟩
theorem Kq.trans {a b c : World} {T U V : Nat → Tag} (h : Kq lo a T b U) (k : Kq lo b U c V) : Kq lo a T c V :=
  ⟨Nat.le_trans h.size k.size, fun i hi hn => k.tag i (Nat.lt_of_lt_of_le hi h.size) (h.tag i hi hn), fun i hi hn h1 h2 h3 => by
    have e := h.block i hi hn h1 h2 h3
    exact (k.block i (Nat.lt_of_lt_of_le hi h.size) (h.tag i hi hn) (fun cur x => h1 cur (e ▸ x)) (fun cur x => h2 cur (e ▸ x)) (fun cur x => h3 cur (e ▸ x))).trans e, k.os.trans h.os, k.tape.trans h.tape, k.output.trans h.output, fun i hi hn hl => (k.low i (Nat.lt_of_lt_of_le hi h.size) (h.tag i hi hn) hl).trans (h.low i hi hn hl)⟩
theorem Kq.mono {lo' : Nat} {w w' : World} {T T' : Nat → Tag} (h : Kq lo w T w' T') (hl : lo' ≤ lo) : Kq lo' w T w' T' := ⟨h.size, h.tag, h.block, h.os, h.tape, h.output, fun b hb hn hlt => h.low b hb hn (Nat.lt_of_lt_of_le hlt hl)⟩
theorem VsAt.mono {lo' : Nat} {w : World} {T : Nat → Tag} {v : Value} {vols : List VolD} {gv : Option Nat} (h : VsAt lo w T v vols gv) (hl : lo' ≤ lo) : VsAt lo' w T v vols gv := by
  obtain ⟨vs, h1, h2, h3, h4, h5, h6, h7⟩ := h
  exact ⟨vs, h1, h2, h3, h4, h5, fun g e => Nat.le_trans hl (h6 g e), fun x hx g e => Nat.le_trans hl (h7 x hx g e)⟩
theorem CAt.mono {lo' : Nat} {w : World} {T : Nat → Tag} {p q : Nat} {c : CD} (h : CAt lo w T p q c) (hl : lo' ≤ lo) : CAt lo' w T p q c := by
  obtain ⟨bA, bc, vv, gv, h⟩ := h
  exact ⟨bA, bc, vv, gv, h.row, h.tp, h.ba, h.vs.mono hl, Nat.le_trans hl h.lp⟩
def BgM (c : CD) (m : M) (e : Nat) (m' : M) (c' : CD) : Prop := ∃ en m1, (BRes m (vName c.nextNo) (titleB c.nextNo c.next) en m1 ∧ Shf.Good m1.now) ∧
  ((en = 0 ∧ e = 0 ∧ m' = m1 ∧ c' = {c with vols := c.vols ++ [⟨c.nextNo, c.next, [], (titleB c.nextNo c.next).length⟩]}) ∨ (en ≠ 0 ∧ e = (undoM c.own m1 en).1 ∧ m' = (undoM c.own m1 en).2 ∧ c' = c))
theorem info60 : (Tryz.prog.info? 60).map (fun i => (i.zero, i.size, i.bytes)) = some (some (.agg #[.int .u64 0, .int .u64 0, .slice none 0 0, .int .i64 0]), 4, 48) := by kernel_rfl
theorem LAt.empty (w : World) (T : Nat → Tag) : LAt w T (.slice none 0 0) [] none := ⟨[], rfl, OwnO.nil w 75 4, fun g h => (by cases h), fun x hx => (by cases hx)⟩
theorem PAt.grownO {w w' : World} {T : Nat → Tag} {A : Option Addr} {c : Nat} {p : S} {X : Option Nat} (h : PAt w T A c p) (G : w.grownBy w' X) (hX : ∀ g, X = some g → NotTy w g 5) : PAt w' T A c p := by
  obtain ⟨h1, h2, h3⟩ := h
  refine ⟨h1, h2, fun h0 => ?_⟩
  obtain ⟨g, o, cur, e, k1, k2, k3⟩ := h3 h0
  exact ⟨g, o, cur, e, (G.block g (Array.getElem?_eq_some_iff.1 k1).1 (fun e => hX g e.symm _ k1)).trans k1, k2, k3⟩
theorem LAt.grownO {w w' : World} {T : Nat → Tag} {v : Value} {its : List ItD} {gl : Option Nat} {X : Option Nat} (h : LAt w T v its gl) (G : w.grownBy w' X) (hX : ∀ g, X = some g → NotTy w g 5) (hY : ∀ g, X = some g → NotTy w g 75) : LAt w' T v its gl := by
  obtain ⟨ds, h1, h2, h3, h4⟩ := h
  exact ⟨ds, h1, h2.keep fun g e => G.block g (h2.lt g e).1 (fun e' => by obtain ⟨cur, hc⟩ := (h2.lt g e).2; exact hY g e'.symm _ hc), h3, fun x hx => (h4 x hx).grownO G hX⟩
theorem VsAt.app {w : World} {T : Nat → Tag} {v : Value} {vols : List VolD} {gv : Option Nat} (h : VsAt lo w T v vols gv) (no nx sz9 : Nat) (g6 : Nat) (hN : w.heap[g6]? = some (.cells #[.int .u64 (no : Int), .int .u64 (nx : Int), .slice none 0 0, .int .i64 (sz9 : Int)] 60 (0, 0))) (hT : ∀ b, w.heap.size ≤ b → T b = .none) (hn : vols.length ≤ 1000000) (hlo : lo ≤ w.heap.size) :
    ∃ v' w' gv', (Builtin.append_ #[53, 53] 53 #[v, .slice (some ⟨g6, 0, none⟩) 1 1]).run Tryz.prog w = .ok v' w' ∧ VsAt lo w' T v' (vols ++ [⟨no, nx, [], sz9⟩]) gv' ∧ w.grownBy w' gv := by
  obtain ⟨vs, h1, h2, h3, h4, h5⟩ := h
  obtain ⟨i, hi, hi2⟩ := Option.map_eq_some_iff.1 info60
  injection hi2 with e1 e2
  injection e2 with e2 e3
  obtain ⟨c0, c1, c2, c3, -⟩ := Frm.cells4 hN
  obtain ⟨v', w', gl', hr, O', G, hgl⟩ := h2.app (P := Tryz.prog) 53 53 i _ 48 Tryz.underlying53 hi e1 e2 e3 rfl (by decide) ⟨g6, 0, none⟩ 1 [.int .u64 (no : Int), .int .u64 (nx : Int), .slice none 0 0, .int .i64 (sz9 : Int)] rfl (fun j u hj => by
    rw [Shf.zero_add']
    match j, hj with
    | 0, hj => injection hj with hj; rw [← hj]; exact c0
    | 1, hj => injection hj with hj; rw [← hj]; exact c1
    | 2, hj => injection hj with hj; rw [← hj]; exact c2
    | 3, hj => injection hj with hj; rw [← hj]; exact c3) (fun u hu => by
    simp only [List.mem_cons, List.not_mem_nil, or_false] at hu
    rcases hu with rfl | rfl | rfl | rfl <;> rfl) hn (by decide)
  have hY : ∀ t, t ≠ 60 → ∀ g, gv = some g → NotTy w g t := fun t ht g e => by
    obtain ⟨cur, hc⟩ := (h2.lt g e).2
    exact notTy hc (Ne.symm ht)
  refine ⟨v', w', gl', hr, ⟨vs ++ [(⟨no, nx, [], sz9⟩, .slice none 0 0, none)], by rw [List.map_append, h1]; rfl, ?_, fun g e => ?_, fun x hx => ?_, ?_⟩, G⟩
  · rw [List.flatMap_append, List.length_append]
    exact O'
  · rcases hgl with rfl | hgl
    · exact h3 g e
    · exact hT g (hgl g e)
  · rcases List.mem_append.1 hx with hx | hx
    · exact (h4 x hx).grownO G (hY 5 (by decide)) (hY 75 (by decide))
    · rw [List.mem_singleton.1 hx]
      exact LAt.empty w' T
  · refine ⟨?_, fun g e => ?_, fun x hx g e => ?_⟩
    · rw [List.pairwise_append]
      refine ⟨h5.1, List.pairwise_singleton _ _, fun x _ y hy => ?_⟩
      rw [List.mem_singleton.1 hy]
      by_cases hx : x.2.2 = none
      · exact Or.inl hx
      · exact Or.inr hx
    · rcases hgl with rfl | hgl
      · exact h5.2.1 g e
      · exact Nat.le_trans hlo (hgl g e)
    · rcases List.mem_append.1 hx with hx | hx
      · exact h5.2.2 x hx g e
      · rw [List.mem_singleton.1 hx] at e; cases e
theorem begin_end {w wd : World} {T : Nat → Tag} {p q : Nat} {c : CD} {bA : Option Addr} {bc : Nat} {vv : Value} {gv : Option Nat} (h : CAtV lo w T p q c bA bc vv gv) (B : Below w.heap.size w wd) (no nx sz9 g6 : Nat) (hN : wd.heap[g6]? = some (.cells #[.int .u64 (no : Int), .int .u64 (nx : Int), .slice none 0 0, .int .i64 (sz9 : Int)] 60 (0, 0))) (hT : ∀ b, w.heap.size ≤ b → T b = .none) (hn : c.vols.length ≤ 1000000) :
    ∃ v' w', (Builtin.append_ #[53, 53] 53 #[vv, .slice (some ⟨g6, 0, none⟩) 1 1]).run Tryz.prog wd = .ok v' w' ∧ (∃ A n cap, v' = .slice A n cap) ∧ (∀ b, b < w.heap.size → gv ≠ some b → w'.heap[b]? = w.heap[b]?) ∧ (∃ u, w'.cell? ⟨p, 6, none⟩ = some u) ∧ w'.frozen? ⟨p, 6, none⟩ = false ∧
      CAt lo (w'.setCell ⟨p, 6, none⟩ v') T p q {c with vols := c.vols ++ [⟨no, nx, [], sz9⟩]} ∧ Kq lo w T (w'.setCell ⟨p, 6, none⟩ v') T ∧ (∀ m, Rep w T q m → Rep (w'.setCell ⟨p, 6, none⟩ v') T q m) := by
  have hd := h.keep (kp_below B T)
  obtain ⟨v', w', gv', hr, V, G⟩ := hd.vs.app no nx sz9 g6 hN (fun b hb => hT b (Nat.le_trans B.size hb)) hn (Nat.le_trans (Nat.le_trans h.lp (Nat.le_of_lt (Array.getElem?_eq_some_iff.1 h.row).1)) B.size)
  have hY : ∀ t, t ≠ 60 → ∀ g, gv = some g → NotTy wd g t := fun t ht g e => by
    obtain ⟨vs, _, h2, _⟩ := hd.vs
    obtain ⟨cur, hc⟩ := (h2.lt g e).2
    exact notTy hc (Ne.symm ht)
  have hgv : ∀ g, gv = some g → g < w.heap.size ∧ ∃ cur, w.heap[g]? = some (.cells cur 60 (0, 0)) := fun g e => by
    obtain ⟨vs, _, h2, _⟩ := h.vs
    exact h2.lt g e
  have hp : w'.heap[p]? = some (.cells (cC q c bA bc vv) 82 (0, 0)) := (G.block p (Array.getElem?_eq_some_iff.1 hd.row).1 (fun e => hY 82 (by decide) p e.symm _ hd.row)).trans hd.row
  have G2 := Shf.grown_set w' p 6 v'
  have hb : ∀ b, b < w.heap.size → gv ≠ some b → w'.heap[b]? = w.heap[b]? := fun b hb hne => (G.block b (Nat.lt_of_lt_of_le hb B.size) (Ne.symm hne)).trans (B.block b hb)
  obtain ⟨A, cap, hv⟩ : ∃ A cap, v' = .slice A (c.vols ++ [(⟨no, nx, [], sz9⟩ : VolD)]).length cap := by
    obtain ⟨vs, _, h2, _⟩ := V
    obtain ⟨A, cap, e, _⟩ := h2.form
    exact ⟨A, cap, e⟩
  have y6 := (row8 hp).2.2.2.2.2.2.1
  refine ⟨v', w', hr, ⟨A, _, cap, hv⟩, hb, ⟨_, y6⟩, frozen_of_row _ _ _ _ _ hp, ⟨bA, bc, v', gv', ?_, h.tp, ?_, ?_, h.lp⟩, ⟨?_, ?_, ?_, G2.os.trans (G.os.trans B.os), G2.tape.trans (G.tape.trans B.tape), G2.output.trans (G.output.trans B.output), fun b hlt hn hl => ?_⟩, fun m R => R.far (P := fun b => gv = some b ∨ b = p) ⟨G2.os.trans (G.os.trans B.os), G2.tape.trans (G.tape.trans B.tape), G2.output.trans (G.output.trans B.output), Nat.le_trans B.size (Nat.le_trans G.size G2.size), fun b hlt hne => (G2.block b (Nat.lt_of_lt_of_le hlt (Nat.le_trans B.size G.size)) (fun e => hne (Or.inr (by injection e)))).trans (hb b hlt (fun e => hne (Or.inl e)))⟩ (fun b hT9 hP => by
    rcases hP with e | e
    · obtain ⟨vs, _, _, h3, _⟩ := h.vs
      exact hT9 (h3 b e)
    · rw [e] at hT9
      exact hT9 h.tp)⟩
  · rw [heap_setCell_same w' p 6 _ 82 _ hp]
    rfl
  · exact (hd.ba.grownO G (hY 5 (by decide))).grown G2 (notTy hp (by decide))
  · exact V.grown G2 (notTy hp (by decide)) (notTy hp (by decide)) (notTy hp (by decide))
  · exact Nat.le_trans B.size (Nat.le_trans G.size G2.size)
  · exact fun b _ h => h
  · intro b hlt hn h82 h60 h75
    have hne : gv ≠ some b := fun e => by
      obtain ⟨cur, hc⟩ := (hgv b e).2
      exact h60 _ hc
    have hnp : b ≠ p := fun e => by rw [e] at h82; exact h82 _ h.row
    exact (G2.block b (Nat.lt_of_lt_of_le hlt (Nat.le_trans B.size G.size)) (fun e => hnp (by injection e))).trans (hb b hlt hne)
  · have hne : gv ≠ some b := fun e => by
      obtain ⟨vs, _, _, _, _, _, h6, _⟩ := h.vs
      have := h6 b e
      omega
    have hnp : b ≠ p := fun e => by have := h.lp; omega
    exact (G2.block b (Nat.lt_of_lt_of_le hlt (Nat.le_trans B.size G.size)) (fun e => hnp (by injection e))).trans (hb b hlt hne)
set_option maxHeartbeats 4000000 in
theorem begin_any (w : World) (T : Nat → Tag) (p q : Nat) (m : M) (c : CD) (R : Rep w T q m) (h : CAt lo w T p q c) (hs : c.Small) (hB : c.hB < 100) (hv : ∀ d ∈ c.vols, d.no < 100) (hd : m.done < 700000) (hms : Nms m 9000) (hroom : -1000000000000 ≤ m.room) (hno : c.nextNo < 100) :
    Calls Tryz.prog 84 #[.pointer (some ⟨p, 0, none⟩)] w fun e w' => ∃ en m' c' T', e = .returned (.int .i64 ((en : Nat) : Int)) ∧ BgM c m en m' c' ∧ Rep w' T' q m' ∧ CAt lo w' T' p q c' ∧ Kq lo w T w' T' := by
  have HQ := Lib.hid (And.intro hs (And.intro hB (And.intro hv (And.intro hd hms))))
  have N1 := heap_alloc_new w (.cells #[.pointer (some ⟨p, 0, none⟩)] 26)
  have B1 : Below w.heap.size w _ := (Below.refl _ _).alloc (Nat.le_refl _) (.cells #[.pointer (some ⟨p, 0, none⟩)] 26)
  obtain ⟨w1, hW1⟩ : ∃ W, W = w.alloc (.cells #[.pointer (some ⟨p, 0, none⟩)] 26) := ⟨_, rfl⟩
  have s1 : w1.heap.size = w.heap.size + 1 := by rw [hW1]; exact al_size _ _
  rw [← hW1] at N1 B1
  obtain ⟨no, hno'⟩ : ∃ n, n = c.nextNo := ⟨_, rfl⟩
  obtain ⟨nx, hnx'⟩ : ∃ n, n = c.next := ⟨_, rfl⟩
  have HNN := Lib.hid (And.intro hno' hnx')
  have HNO : Hid (no < 100) := by rw [hno']; exact hno
  have HBD : Hid (no < 18446744073709551616 ∧ nx < 18446744073709551616) := ⟨by rw [hno']; omega, by rw [hnx']; have := next_lt hs; omega⟩
  have HCN : Hid (∀ y, Below w1.heap.size w1 y → (Calls Tryz.prog 99 #[.pointer (some ⟨p, 0, none⟩)] y fun e w' => e = .returned (.int .u64 (no : Nat)) ∧ Below y.heap.size y w') ∧ (Calls Tryz.prog 19 #[.pointer (some ⟨p, 0, none⟩)] y fun e w' => e = .returned (.int .u64 (nx : Nat)) ∧ Below y.heap.size y w')) := fun y hy => by
    have hc := h.keep ((kp_below B1 T).trans (kp_below hy T))
    rw [hno', hnx']
    exact ⟨nextNo_any y T p q c hc hs, next_any y T p q c hc hs⟩
  obtain ⟨xc, hxc⟩ : ∃ k, k = w.heap.size := ⟨_, rfl⟩
  have HXC : Hid (w1.cell? ⟨xc, 0, none⟩ = some (.pointer (some ⟨p, 0, none⟩)) ∧ xc < w1.heap.size) := by rw [hxc]; exact ⟨cell_of_row w1 w.heap.size 0 _ 26 (0, 0) N1, by omega⟩
  have HXW := Lib.hid hxc
  have HR := Lib.hid (And.intro R (And.intro h (And.intro B1 (And.intro s1 (And.intro hroom hno)))))
  clear R h hs hB hv hd hms hroom hno N1 B1 s1 hno' hnx'
  go_enter Tryz.func84, Tryz.ntmps84
  go_upto_region 1 with (fail)
  rw [← hW1, ← hxc]
  clear hW1 hxc
  go_cut [3] (fun v3 wx => ∃ k : Nat, v3 = .pointer (some ⟨k, 0, none⟩) ∧ Hid (wx.heap[k]? = some (.cells #[.int .u64 (no : Int), .int .u64 (nx : Int), .slice none 0 0, .int .i64 0] 60 (0, 0)) ∧ w1.heap.size ≤ k ∧ Below w1.heap.size w1 wx))
  case first =>
    refine wp_region_noPanic ?_
    refine wp_region_held_drew (S := fun y : World => Below w1.heap.size w1 y) (by kernel_rfl) (Below.refl _ _).drew (fun hHeld => ?_)
    generalize w1.drew = wd at *
    refine wpAnyH_take (i := 0) (oi := ⟨some 7, .load 26 (.tmp 1), 26, "files.go:97", #[], none⟩) (v := .pointer (some ⟨p, 0, none⟩)) rfl (by kernel_rfl) (by kernel_rfl) (by kernel_rfl) (fun _ _ _ h => h) (Or.inl ⟨by rfl, fun w hSw => by have kx := (World.cell?_of_block (a := ⟨xc, 0, none⟩) (hSw.block xc HXC.out.2)).trans HXC.out.1; go_simp⟩) (by assumption) ?_
    try simp only [Act.put, stA, stB, stC]
    refine wpAnyH_take (i := 2) (oi := ⟨some 9, .load 26 (.tmp 1), 26, "files.go:97", #[], none⟩) (v := .pointer (some ⟨p, 0, none⟩)) rfl (by kernel_rfl) (by kernel_rfl) (by kernel_rfl) (fun _ _ _ h => h) (Or.inl ⟨by rfl, fun w hSw => by have kx := (World.cell?_of_block (a := ⟨xc, 0, none⟩) (hSw.block xc HXC.out.2)).trans HXC.out.1; go_simp⟩) (by assumption) ?_
    try simp only [Act.put, stA, stB, stC]
    refine wpAnyH_ready (rs := [1, 5]) (by kernel_rfl) (by simp) ?_
    refine (AllReadyH.cons (o := ⟨some 8, .call ⟨.value (.func 99), #[.tmp 7], #[26]⟩, 42, "files.go:97", #[⟨0, .data⟩], none⟩) rfl (fun K hK => ?_) (AllReadyH.cons (o := ⟨some 3, .alloc 60, 0, "files.go:97", #[], none⟩) rfl (fun K hK => ?_) AllReadyH.nil))
    · go_simp
      refine (HCN.out wd hHeld).1.mono ?_
      rintro e wd ⟨rfl, B2⟩
      refine hK.out _ _ (hHeld.trans (B2.mono hHeld.size)) (fun hHeld => ?_)
      clear hK K
      try simp only [Act.put, stA, stB, stC]
      try (have N5 := Lib.hid ((B2.block _ (Array.getElem?_eq_some_iff.1 N5.out).1).trans N5.out))
      clear B2
      refine wpAnyH_ready (rs := [3, 5]) (by kernel_rfl) (by simp) ?_
      refine (AllReadyH.cons (o := ⟨some 10, .call ⟨.value (.func 19), #[.tmp 9], #[26]⟩, 42, "files.go:97", #[⟨2, .data⟩, ⟨1, .chain⟩], none⟩) rfl (fun K hK => ?_) (AllReadyH.cons (o := ⟨some 3, .alloc 60, 0, "files.go:97", #[], none⟩) rfl (fun K hK => ?_) AllReadyH.nil))
      · go_simp
        refine (HCN.out wd hHeld).2.mono ?_
        rintro e wd ⟨rfl, B2⟩
        refine hK.out _ _ (hHeld.trans (B2.mono hHeld.size)) (fun hHeld => ?_)
        clear hK K
        try simp only [Act.put, stA, stB, stC]
        try (have N5 := Lib.hid ((B2.block _ (Array.getElem?_eq_some_iff.1 N5.out).1).trans N5.out))
        clear B2
        refine wpAnyH_take (i := 4) (oi := ⟨some 11, .build 60 #[(0, .tmp 8), (1, .tmp 10)], 60, "files.go:97", #[⟨1, .data⟩, ⟨3, .data⟩], none⟩) (v := .agg #[.int .u64 (no : Int), .int .u64 (nx : Int), .slice none 0 0, .int .i64 0]) rfl (by kernel_rfl) (by kernel_rfl) (by kernel_rfl) (fun _ _ _ h => h) (Or.inl ⟨by rfl, fun w hSw => by go_simp⟩) (by assumption) ?_
        try simp only [Act.put, stA, stB, stC]
        refine wpAnyH_ready (rs := [5]) (by kernel_rfl) (by simp) ?_
        refine AllReadyH.cons (o := ⟨some 3, .alloc 60, 0, "files.go:97", #[], none⟩) rfl (fun K hK => ?_) AllReadyH.nil
        go_simp
        have N5 := Lib.hid (And.intro hHeld.size (heap_alloc_new wd (.cells #[.int .u64 0, .int .u64 0, .slice none 0 0, .int .i64 0] 60)))
        have B5 := hHeld.alloc hHeld.size (.cells #[.int .u64 0, .int .u64 0, .slice none 0 0, .int .i64 0] 60)
        obtain ⟨k5, hk5⟩ : ∃ k, k = wd.heap.size := ⟨_, rfl⟩
        rw [← hk5] at N5
        have HK5 := Lib.hid N5.out.1
        replace N5 := Lib.hid N5.out.2
        generalize wd.alloc (.cells #[.int .u64 0, .int .u64 0, .slice none 0 0, .int .i64 0] 60) = wd at N5 B5 ⊢
        simp only [← hk5]
        clear hk5
        refine hK.out _ _ (B5) (fun hHeld => ?_)
        clear hK K
        try simp only [Act.put, stA, stB, stC]
        clear B5
        refine wpAnyH_ready (rs := [6]) (by kernel_rfl) (by simp) ?_
        refine AllReadyH.cons (o := ⟨none, .store 60 (.tmp 3) (.tmp 11), 0, "files.go:97", #[⟨5, .data⟩, ⟨4, .data⟩, ⟨3, .chain⟩, ⟨0, .phase⟩, ⟨1, .phase⟩, ⟨2, .phase⟩, ⟨3, .phase⟩, ⟨4, .phase⟩, ⟨5, .phase⟩], none⟩) rfl (fun K hK => ?_) AllReadyH.nil
        obtain ⟨z0, z1, z2, z3, -⟩ := Frm.cells4 N5.out
        have zf := fun i => frozen_of_row _ k5 i _ 60 N5.out
        go_simp
        have r4 := put4 N5.out (.int .u64 (no : Int)) (.int .u64 (nx : Int)) (.slice none 0 0) (.int .i64 0)
        have g4 := set4_grown wd k5 (.int .u64 (no : Int)) (.int .u64 (nx : Int)) (.slice none 0 0) (.int .i64 0)
        have B4 := Coin.below_grown hHeld g4 HK5.out
        have HE := Lib.hid r4
        clear r4 g4 z0 z1 z2 z3 zf
        refine hK.out _ _ (B4) (fun hHeld => ?_)
        clear hK K
        try simp only [Act.put, stA, stB, stC]
        clear B4
        refine wpAnyH_done (by kernel_rfl) ?_ _
        try unfold NoPanic
        go_wp2
        go_meet
        case rel => exact ⟨k5, rfl, HE.out, HK5.out, hHeld⟩
      · go_simp
        have N5 := Lib.hid (And.intro hHeld.size (heap_alloc_new wd (.cells #[.int .u64 0, .int .u64 0, .slice none 0 0, .int .i64 0] 60)))
        have B5 := hHeld.alloc hHeld.size (.cells #[.int .u64 0, .int .u64 0, .slice none 0 0, .int .i64 0] 60)
        obtain ⟨k5, hk5⟩ : ∃ k, k = wd.heap.size := ⟨_, rfl⟩
        rw [← hk5] at N5
        have HK5 := Lib.hid N5.out.1
        replace N5 := Lib.hid N5.out.2
        generalize wd.alloc (.cells #[.int .u64 0, .int .u64 0, .slice none 0 0, .int .i64 0] 60) = wd at N5 B5 ⊢
        simp only [← hk5]
        clear hk5
        refine hK.out _ _ (B5) (fun hHeld => ?_)
        clear hK K
        try simp only [Act.put, stA, stB, stC]
        clear B5
        refine wpAnyH_ready (rs := [3]) (by kernel_rfl) (by simp) ?_
        refine AllReadyH.cons (o := ⟨some 10, .call ⟨.value (.func 19), #[.tmp 9], #[26]⟩, 42, "files.go:97", #[⟨2, .data⟩, ⟨1, .chain⟩], none⟩) rfl (fun K hK => ?_) AllReadyH.nil
        go_simp
        refine (HCN.out wd hHeld).2.mono ?_
        rintro e wd ⟨rfl, B2⟩
        refine hK.out _ _ (hHeld.trans (B2.mono hHeld.size)) (fun hHeld => ?_)
        clear hK K
        try simp only [Act.put, stA, stB, stC]
        try (have N5 := Lib.hid ((B2.block _ (Array.getElem?_eq_some_iff.1 N5.out).1).trans N5.out))
        clear B2
        refine wpAnyH_take (i := 4) (oi := ⟨some 11, .build 60 #[(0, .tmp 8), (1, .tmp 10)], 60, "files.go:97", #[⟨1, .data⟩, ⟨3, .data⟩], none⟩) (v := .agg #[.int .u64 (no : Int), .int .u64 (nx : Int), .slice none 0 0, .int .i64 0]) rfl (by kernel_rfl) (by kernel_rfl) (by kernel_rfl) (fun _ _ _ h => h) (Or.inl ⟨by rfl, fun w hSw => by go_simp⟩) (by assumption) ?_
        try simp only [Act.put, stA, stB, stC]
        refine wpAnyH_ready (rs := [6]) (by kernel_rfl) (by simp) ?_
        refine AllReadyH.cons (o := ⟨none, .store 60 (.tmp 3) (.tmp 11), 0, "files.go:97", #[⟨5, .data⟩, ⟨4, .data⟩, ⟨3, .chain⟩, ⟨0, .phase⟩, ⟨1, .phase⟩, ⟨2, .phase⟩, ⟨3, .phase⟩, ⟨4, .phase⟩, ⟨5, .phase⟩], none⟩) rfl (fun K hK => ?_) AllReadyH.nil
        obtain ⟨z0, z1, z2, z3, -⟩ := Frm.cells4 N5.out
        have zf := fun i => frozen_of_row _ k5 i _ 60 N5.out
        go_simp
        have r4 := put4 N5.out (.int .u64 (no : Int)) (.int .u64 (nx : Int)) (.slice none 0 0) (.int .i64 0)
        have g4 := set4_grown wd k5 (.int .u64 (no : Int)) (.int .u64 (nx : Int)) (.slice none 0 0) (.int .i64 0)
        have B4 := Coin.below_grown hHeld g4 HK5.out
        have HE := Lib.hid r4
        clear r4 g4 z0 z1 z2 z3 zf
        refine hK.out _ _ (B4) (fun hHeld => ?_)
        clear hK K
        try simp only [Act.put, stA, stB, stC]
        clear B4
        refine wpAnyH_done (by kernel_rfl) ?_ _
        try unfold NoPanic
        go_wp2
        go_meet
        case rel => exact ⟨k5, rfl, HE.out, HK5.out, hHeld⟩
    · go_simp
      have N5 := Lib.hid (And.intro hHeld.size (heap_alloc_new wd (.cells #[.int .u64 0, .int .u64 0, .slice none 0 0, .int .i64 0] 60)))
      have B5 := hHeld.alloc hHeld.size (.cells #[.int .u64 0, .int .u64 0, .slice none 0 0, .int .i64 0] 60)
      obtain ⟨k5, hk5⟩ : ∃ k, k = wd.heap.size := ⟨_, rfl⟩
      rw [← hk5] at N5
      have HK5 := Lib.hid N5.out.1
      replace N5 := Lib.hid N5.out.2
      generalize wd.alloc (.cells #[.int .u64 0, .int .u64 0, .slice none 0 0, .int .i64 0] 60) = wd at N5 B5 ⊢
      simp only [← hk5]
      clear hk5
      refine hK.out _ _ (B5) (fun hHeld => ?_)
      clear hK K
      try simp only [Act.put, stA, stB, stC]
      clear B5
      refine wpAnyH_ready (rs := [1]) (by kernel_rfl) (by simp) ?_
      refine AllReadyH.cons (o := ⟨some 8, .call ⟨.value (.func 99), #[.tmp 7], #[26]⟩, 42, "files.go:97", #[⟨0, .data⟩], none⟩) rfl (fun K hK => ?_) AllReadyH.nil
      go_simp
      refine (HCN.out wd hHeld).1.mono ?_
      rintro e wd ⟨rfl, B2⟩
      refine hK.out _ _ (hHeld.trans (B2.mono hHeld.size)) (fun hHeld => ?_)
      clear hK K
      try simp only [Act.put, stA, stB, stC]
      try (have N5 := Lib.hid ((B2.block _ (Array.getElem?_eq_some_iff.1 N5.out).1).trans N5.out))
      clear B2
      refine wpAnyH_ready (rs := [3]) (by kernel_rfl) (by simp) ?_
      refine AllReadyH.cons (o := ⟨some 10, .call ⟨.value (.func 19), #[.tmp 9], #[26]⟩, 42, "files.go:97", #[⟨2, .data⟩, ⟨1, .chain⟩], none⟩) rfl (fun K hK => ?_) AllReadyH.nil
      go_simp
      refine (HCN.out wd hHeld).2.mono ?_
      rintro e wd ⟨rfl, B2⟩
      refine hK.out _ _ (hHeld.trans (B2.mono hHeld.size)) (fun hHeld => ?_)
      clear hK K
      try simp only [Act.put, stA, stB, stC]
      try (have N5 := Lib.hid ((B2.block _ (Array.getElem?_eq_some_iff.1 N5.out).1).trans N5.out))
      clear B2
      refine wpAnyH_take (i := 4) (oi := ⟨some 11, .build 60 #[(0, .tmp 8), (1, .tmp 10)], 60, "files.go:97", #[⟨1, .data⟩, ⟨3, .data⟩], none⟩) (v := .agg #[.int .u64 (no : Int), .int .u64 (nx : Int), .slice none 0 0, .int .i64 0]) rfl (by kernel_rfl) (by kernel_rfl) (by kernel_rfl) (fun _ _ _ h => h) (Or.inl ⟨by rfl, fun w hSw => by go_simp⟩) (by assumption) ?_
      try simp only [Act.put, stA, stB, stC]
      refine wpAnyH_ready (rs := [6]) (by kernel_rfl) (by simp) ?_
      refine AllReadyH.cons (o := ⟨none, .store 60 (.tmp 3) (.tmp 11), 0, "files.go:97", #[⟨5, .data⟩, ⟨4, .data⟩, ⟨3, .chain⟩, ⟨0, .phase⟩, ⟨1, .phase⟩, ⟨2, .phase⟩, ⟨3, .phase⟩, ⟨4, .phase⟩, ⟨5, .phase⟩], none⟩) rfl (fun K hK => ?_) AllReadyH.nil
      obtain ⟨z0, z1, z2, z3, -⟩ := Frm.cells4 N5.out
      have zf := fun i => frozen_of_row _ k5 i _ 60 N5.out
      go_simp
      have r4 := put4 N5.out (.int .u64 (no : Int)) (.int .u64 (nx : Int)) (.slice none 0 0) (.int .i64 0)
      have g4 := set4_grown wd k5 (.int .u64 (no : Int)) (.int .u64 (nx : Int)) (.slice none 0 0) (.int .i64 0)
      have B4 := Coin.below_grown hHeld g4 HK5.out
      have HE := Lib.hid r4
      clear r4 g4 z0 z1 z2 z3 zf
      refine hK.out _ _ (B4) (fun hHeld => ?_)
      clear hK K
      try simp only [Act.put, stA, stB, stC]
      clear B4
      refine wpAnyH_done (by kernel_rfl) ?_ _
      try unfold NoPanic
      go_wp2
      go_meet
      case rel => exact ⟨k5, rfl, HE.out, HK5.out, hHeld⟩
  case rest =>
    obtain ⟨k, rfl, HV⟩ := hcut
    generalize wc = wv at *
    have HTI : Hid (∀ y, Below wv.heap.size wv y → Calls Tryz.prog 104 #[.agg #[.int .u64 (no : Int), .int .u64 (nx : Int), .slice none 0 0, .int .i64 0]] y (CoinOwn y (titleB no nx))) := fun y _ => title_own y no nx none 0 0 0 HBD.out.1 HBD.out.2
    obtain ⟨tl, htl⟩ : ∃ n, n = (titleB no nx).length := ⟨_, rfl⟩
    have HTL := Lib.hid htl
    clear htl
    go_upto_region 2 with (fail)
    go_cut [4, 5] (fun v4 v5 wx => ∃ a b A cp, v4 = .pointer (some ⟨a, 0, none⟩) ∧ v5 = .pointer (some ⟨b, 0, none⟩) ∧ Hid (wx.heap[a]? = some (.cells #[.string (str (vName no))] 9 (0, 0)) ∧ wx.heap[b]? = some (.cells #[.slice A tl cp] 30 (0, 0)) ∧ wv.heap.size ≤ a ∧ wv.heap.size ≤ b ∧ Own wx wv.heap.size (.slice A tl cp) (titleB no nx) ∧ (A = none → cp = 0) ∧ Below wv.heap.size wv wx))
    case first =>
      refine wp_region_noPanic ?_
      refine wp_region_held_drew (S := fun y : World => Below wv.heap.size wv y) (by kernel_rfl) (Below.refl _ _).drew (fun hHeld => ?_)
      generalize wv.drew = wd at *
      refine wpAnyH_take (i := 0) (oi := ⟨some 12, .fieldAddr 60 (.tmp 3) 0, 0, "files.go:98", #[], none⟩) (v := .pointer (some ⟨k, 0, none⟩)) rfl (by kernel_rfl) (by kernel_rfl) (by kernel_rfl) (fun _ _ _ h => h) (Or.inl ⟨by rfl, fun w hSw => by go_simp⟩) (by assumption) ?_
      try simp only [Act.put, stA, stB, stC]
      refine wpAnyH_take (i := 1) (oi := ⟨some 13, .load 42 (.tmp 12), 42, "files.go:98", #[⟨0, .data⟩], none⟩) (v := .int .u64 (no : Int)) rfl (by kernel_rfl) (by kernel_rfl) (by kernel_rfl) (fun _ _ _ h => h) (Or.inl ⟨by rfl, fun w hSw => by obtain ⟨p0, p1, p2, p3, -⟩ := Frm.cells4 ((hSw.block k (Array.getElem?_eq_some_iff.1 HV.out.1).1).trans HV.out.1); go_simp⟩) (by assumption) ?_
      try simp only [Act.put, stA, stB, stC]
      refine wpAnyH_take (i := 3) (oi := ⟨some 15, .load 60 (.tmp 3), 60, "files.go:98", #[], none⟩) (v := .agg #[.int .u64 (no : Int), .int .u64 (nx : Int), .slice none 0 0, .int .i64 0]) rfl (by kernel_rfl) (by kernel_rfl) (by kernel_rfl) (fun _ _ _ h => h) (Or.inl ⟨by rfl, fun w hSw => by obtain ⟨p0, p1, p2, p3, -⟩ := Frm.cells4 ((hSw.block k (Array.getElem?_eq_some_iff.1 HV.out.1).1).trans HV.out.1); go_simp⟩) (by assumption) ?_
      try simp only [Act.put, stA, stB, stC]
      refine wpAnyH_ready (rs := [2, 5, 6]) (by kernel_rfl) (by simp) ?_
      refine (AllReadyH.cons (o := ⟨some 14, .call ⟨.value (.func 26), #[.tmp 13], #[42]⟩, 9, "files.go:98", #[⟨1, .data⟩], none⟩) rfl (fun K hK => ?_) (AllReadyH.cons (o := ⟨some 4, .alloc 9, 0, "files.go:98", #[], none⟩) rfl (fun K hK => ?_) (AllReadyH.cons (o := ⟨some 5, .alloc 30, 0, "files.go:98", #[], none⟩) rfl (fun K hK => ?_) AllReadyH.nil)))
      · go_simp
        refine (name_any wd no HNO.out).mono ?_
        rintro e wx ⟨rfl, rfl⟩
        refine hK.out _ _ (hHeld) (fun hHeld => ?_)
        clear hK K
        try simp only [Act.put, stA, stB, stC]
        skip
        refine wpAnyH_ready (rs := [4, 5, 6]) (by kernel_rfl) (by simp) ?_
        refine (AllReadyH.cons (o := ⟨some 16, .call ⟨.value (.func 104), #[.tmp 15], #[60]⟩, 30, "files.go:98", #[⟨3, .data⟩, ⟨2, .chain⟩], none⟩) rfl (fun K hK => ?_) (AllReadyH.cons (o := ⟨some 4, .alloc 9, 0, "files.go:98", #[], none⟩) rfl (fun K hK => ?_) (AllReadyH.cons (o := ⟨some 5, .alloc 30, 0, "files.go:98", #[], none⟩) rfl (fun K hK => ?_) AllReadyH.nil)))
        · go_simp
          refine (HTI.out wd hHeld).mono ?_
          rintro e wd ⟨v9, rfl, O4', B2⟩
          obtain ⟨A, cp, rfl, -, -, hA⟩ := O4'.form
          rw [← HTL.out] at O4' ⊢
          have HA := Lib.hid hA
          have BW := hHeld.trans (B2.mono hHeld.size)
          try (have N4 := Lib.hid ((B2.block _ (Array.getElem?_eq_some_iff.1 N4.out).1).trans N4.out))
          try (have N5 := Lib.hid ((B2.block _ (Array.getElem?_eq_some_iff.1 N5.out).1).trans N5.out))
          try (have O4 := Lib.hid (O4.out.kept B2))
          have O4 := Lib.hid (own_le O4' hHeld.size)
          clear O4' B2 hA
          refine hK.out _ _ (BW) (fun hHeld => ?_)
          clear hK K
          try simp only [Act.put, stA, stB, stC]
          clear BW
          refine wpAnyH_ready (rs := [5, 6]) (by kernel_rfl) (by simp) ?_
          refine (AllReadyH.cons (o := ⟨some 4, .alloc 9, 0, "files.go:98", #[], none⟩) rfl (fun K hK => ?_) (AllReadyH.cons (o := ⟨some 5, .alloc 30, 0, "files.go:98", #[], none⟩) rfl (fun K hK => ?_) AllReadyH.nil))
          · go_simp
            have N4' := heap_alloc_new wd (.cells #[.string ⟨#[]⟩] 9)
            have B2 : Below wd.heap.size wd (wd.alloc (.cells #[.string ⟨#[]⟩] 9)) := (Below.refl _ _).alloc (Nat.le_refl _) _
            have BW := hHeld.trans (B2.mono hHeld.size)
            try (have N4 := Lib.hid ((B2.block _ (Array.getElem?_eq_some_iff.1 N4.out).1).trans N4.out))
            try (have N5 := Lib.hid ((B2.block _ (Array.getElem?_eq_some_iff.1 N5.out).1).trans N5.out))
            try (have O4 := Lib.hid (O4.out.kept B2))
            have H4 := Lib.hid hHeld.size
            obtain ⟨k4, hk5⟩ : ∃ k, k = wd.heap.size := ⟨_, rfl⟩
            rw [← hk5] at N4' H4
            have N4 := Lib.hid N4'
            clear N4' B2
            generalize wd.alloc (.cells #[.string ⟨#[]⟩] 9) = wd at *
            simp only [← hk5]
            clear hk5
            refine hK.out _ _ (BW) (fun hHeld => ?_)
            clear hK K
            try simp only [Act.put, stA, stB, stC]
            clear BW
            refine wpAnyH_ready (rs := [6]) (by kernel_rfl) (by simp) ?_
            refine AllReadyH.cons (o := ⟨some 5, .alloc 30, 0, "files.go:98", #[], none⟩) rfl (fun K hK => ?_) AllReadyH.nil
            go_simp
            have N5' := heap_alloc_new wd (.cells #[.slice none 0 0] 30)
            have B2 : Below wd.heap.size wd (wd.alloc (.cells #[.slice none 0 0] 30)) := (Below.refl _ _).alloc (Nat.le_refl _) _
            have BW := hHeld.trans (B2.mono hHeld.size)
            try (have N4 := Lib.hid ((B2.block _ (Array.getElem?_eq_some_iff.1 N4.out).1).trans N4.out))
            try (have N5 := Lib.hid ((B2.block _ (Array.getElem?_eq_some_iff.1 N5.out).1).trans N5.out))
            try (have O4 := Lib.hid (O4.out.kept B2))
            have H5 := Lib.hid hHeld.size
            obtain ⟨k5, hk5⟩ : ∃ k, k = wd.heap.size := ⟨_, rfl⟩
            rw [← hk5] at N5' H5
            have N5 := Lib.hid N5'
            clear N5' B2
            generalize wd.alloc (.cells #[.slice none 0 0] 30) = wd at *
            simp only [← hk5]
            clear hk5
            refine hK.out _ _ (BW) (fun hHeld => ?_)
            clear hK K
            try simp only [Act.put, stA, stB, stC]
            clear BW
            refine wpAnyH_ready (rs := [7]) (by kernel_rfl) (by simp) ?_
            refine AllReadyH.cons (o := ⟨none, .store 9 (.tmp 4) (.tmp 14), 0, "files.go:98", #[⟨5, .data⟩, ⟨2, .data⟩, ⟨4, .chain⟩, ⟨0, .phase⟩, ⟨1, .phase⟩, ⟨2, .phase⟩, ⟨3, .textOnly .lateStores⟩, ⟨4, .textOnly .lateStoresUnsure⟩, ⟨5, .phase⟩, ⟨6, .phase⟩], none⟩) rfl (fun K hK => ?_) AllReadyH.nil
            have hne : k5 ≠ k4 := fun e => by have a := N4.out; have b := N5.out; rw [e] at b; rw [a] at b; injection b with b; injection b with b1 b2; exact absurd b2 (by decide)
            have c4 : wd.cell? ⟨k4, 0, none⟩ = _ := cell_of_row wd k4 0 _ 9 (0, 0) N4.out
            have zf := fun i => frozen_of_row _ k4 i _ 9 N4.out
            go_simp
            have G4 := Shf.grown_set wd k4 0 (.string (str (vName no)))
            have N4' := heap_setCell_same wd k4 0 _ 9 (.string (str (vName no))) N4.out
            have N5' := (G4.block k5 (Array.getElem?_eq_some_iff.1 N5.out).1 (fun e => by injection e with e; exact hne e)).trans N5.out
            have O4' := own_grown O4.out G4 (notTy N4.out (by decide))
            have BW := Coin.below_grown hHeld G4 H4.out
            clear N4 N5 O4 c4 zf G4 hne
            have N4 := Lib.hid N4'
            have N5 := Lib.hid N5'
            have O4 := Lib.hid O4'
            clear N4' N5' O4'
            generalize wd.setCell ⟨k4, 0, none⟩ (.string (str (vName no))) = wd at *
            refine hK.out _ _ (BW) (fun hHeld => ?_)
            clear hK K
            try simp only [Act.put, stA, stB, stC]
            clear BW
            refine wpAnyH_ready (rs := [8]) (by kernel_rfl) (by simp) ?_
            refine AllReadyH.cons (o := ⟨none, .store 30 (.tmp 5) (.tmp 16), 0, "files.go:98", #[⟨6, .data⟩, ⟨4, .data⟩, ⟨7, .chain⟩, ⟨0, .phase⟩, ⟨1, .phase⟩, ⟨2, .phase⟩, ⟨3, .phase⟩, ⟨4, .phase⟩, ⟨5, .phase⟩, ⟨6, .phase⟩, ⟨7, .phase⟩], none⟩) rfl (fun K hK => ?_) AllReadyH.nil
            have hne : k4 ≠ k5 := fun e => by have a := N4.out; have b := N5.out; rw [← e] at b; rw [a] at b; injection b with b; injection b with b1 b2; exact absurd b2 (by decide)
            have c4 : wd.cell? ⟨k5, 0, none⟩ = _ := cell_of_row wd k5 0 _ 30 (0, 0) N5.out
            have zf := fun i => frozen_of_row _ k5 i _ 30 N5.out
            go_simp
            have G4 := Shf.grown_set wd k5 0 (.slice A tl cp)
            have N4' := (G4.block k4 (Array.getElem?_eq_some_iff.1 N4.out).1 (fun e => by injection e with e; exact hne e)).trans N4.out
            have N5' := heap_setCell_same wd k5 0 _ 30 (.slice A tl cp) N5.out
            have O4' := own_grown O4.out G4 (notTy N5.out (by decide))
            have BW := Coin.below_grown hHeld G4 H5.out
            clear N4 N5 O4 c4 zf G4 hne
            have N4 := Lib.hid N4'
            have N5 := Lib.hid N5'
            have O4 := Lib.hid O4'
            clear N4' N5' O4'
            generalize wd.setCell ⟨k5, 0, none⟩ (.slice A tl cp) = wd at *
            refine hK.out _ _ (BW) (fun hHeld => ?_)
            clear hK K
            try simp only [Act.put, stA, stB, stC]
            clear BW
            refine wpAnyH_done (by kernel_rfl) ?_ _
            try unfold NoPanic
            go_wp2
            go_meet
            case rel => exact ⟨k4, k5, A, cp, rfl, rfl, N4.out, N5.out, H4.out, H5.out, O4.out, HA.out, hHeld⟩
          · go_simp
            have N5' := heap_alloc_new wd (.cells #[.slice none 0 0] 30)
            have B2 : Below wd.heap.size wd (wd.alloc (.cells #[.slice none 0 0] 30)) := (Below.refl _ _).alloc (Nat.le_refl _) _
            have BW := hHeld.trans (B2.mono hHeld.size)
            try (have N4 := Lib.hid ((B2.block _ (Array.getElem?_eq_some_iff.1 N4.out).1).trans N4.out))
            try (have N5 := Lib.hid ((B2.block _ (Array.getElem?_eq_some_iff.1 N5.out).1).trans N5.out))
            try (have O4 := Lib.hid (O4.out.kept B2))
            have H5 := Lib.hid hHeld.size
            obtain ⟨k5, hk5⟩ : ∃ k, k = wd.heap.size := ⟨_, rfl⟩
            rw [← hk5] at N5' H5
            have N5 := Lib.hid N5'
            clear N5' B2
            generalize wd.alloc (.cells #[.slice none 0 0] 30) = wd at *
            simp only [← hk5]
            clear hk5
            refine hK.out _ _ (BW) (fun hHeld => ?_)
            clear hK K
            try simp only [Act.put, stA, stB, stC]
            clear BW
            refine wpAnyH_ready (rs := [5]) (by kernel_rfl) (by simp) ?_
            refine AllReadyH.cons (o := ⟨some 4, .alloc 9, 0, "files.go:98", #[], none⟩) rfl (fun K hK => ?_) AllReadyH.nil
            go_simp
            have N4' := heap_alloc_new wd (.cells #[.string ⟨#[]⟩] 9)
            have B2 : Below wd.heap.size wd (wd.alloc (.cells #[.string ⟨#[]⟩] 9)) := (Below.refl _ _).alloc (Nat.le_refl _) _
            have BW := hHeld.trans (B2.mono hHeld.size)
            try (have N4 := Lib.hid ((B2.block _ (Array.getElem?_eq_some_iff.1 N4.out).1).trans N4.out))
            try (have N5 := Lib.hid ((B2.block _ (Array.getElem?_eq_some_iff.1 N5.out).1).trans N5.out))
            try (have O4 := Lib.hid (O4.out.kept B2))
            have H4 := Lib.hid hHeld.size
            obtain ⟨k4, hk5⟩ : ∃ k, k = wd.heap.size := ⟨_, rfl⟩
            rw [← hk5] at N4' H4
            have N4 := Lib.hid N4'
            clear N4' B2
            generalize wd.alloc (.cells #[.string ⟨#[]⟩] 9) = wd at *
            simp only [← hk5]
            clear hk5
            refine hK.out _ _ (BW) (fun hHeld => ?_)
            clear hK K
            try simp only [Act.put, stA, stB, stC]
            clear BW
            refine wpAnyH_ready (rs := [7]) (by kernel_rfl) (by simp) ?_
            refine AllReadyH.cons (o := ⟨none, .store 9 (.tmp 4) (.tmp 14), 0, "files.go:98", #[⟨5, .data⟩, ⟨2, .data⟩, ⟨4, .chain⟩, ⟨0, .phase⟩, ⟨1, .phase⟩, ⟨2, .phase⟩, ⟨3, .textOnly .lateStores⟩, ⟨4, .textOnly .lateStoresUnsure⟩, ⟨5, .phase⟩, ⟨6, .phase⟩], none⟩) rfl (fun K hK => ?_) AllReadyH.nil
            have hne : k5 ≠ k4 := fun e => by have a := N4.out; have b := N5.out; rw [e] at b; rw [a] at b; injection b with b; injection b with b1 b2; exact absurd b2 (by decide)
            have c4 : wd.cell? ⟨k4, 0, none⟩ = _ := cell_of_row wd k4 0 _ 9 (0, 0) N4.out
            have zf := fun i => frozen_of_row _ k4 i _ 9 N4.out
            go_simp
            have G4 := Shf.grown_set wd k4 0 (.string (str (vName no)))
            have N4' := heap_setCell_same wd k4 0 _ 9 (.string (str (vName no))) N4.out
            have N5' := (G4.block k5 (Array.getElem?_eq_some_iff.1 N5.out).1 (fun e => by injection e with e; exact hne e)).trans N5.out
            have O4' := own_grown O4.out G4 (notTy N4.out (by decide))
            have BW := Coin.below_grown hHeld G4 H4.out
            clear N4 N5 O4 c4 zf G4 hne
            have N4 := Lib.hid N4'
            have N5 := Lib.hid N5'
            have O4 := Lib.hid O4'
            clear N4' N5' O4'
            generalize wd.setCell ⟨k4, 0, none⟩ (.string (str (vName no))) = wd at *
            refine hK.out _ _ (BW) (fun hHeld => ?_)
            clear hK K
            try simp only [Act.put, stA, stB, stC]
            clear BW
            refine wpAnyH_ready (rs := [8]) (by kernel_rfl) (by simp) ?_
            refine AllReadyH.cons (o := ⟨none, .store 30 (.tmp 5) (.tmp 16), 0, "files.go:98", #[⟨6, .data⟩, ⟨4, .data⟩, ⟨7, .chain⟩, ⟨0, .phase⟩, ⟨1, .phase⟩, ⟨2, .phase⟩, ⟨3, .phase⟩, ⟨4, .phase⟩, ⟨5, .phase⟩, ⟨6, .phase⟩, ⟨7, .phase⟩], none⟩) rfl (fun K hK => ?_) AllReadyH.nil
            have hne : k4 ≠ k5 := fun e => by have a := N4.out; have b := N5.out; rw [← e] at b; rw [a] at b; injection b with b; injection b with b1 b2; exact absurd b2 (by decide)
            have c4 : wd.cell? ⟨k5, 0, none⟩ = _ := cell_of_row wd k5 0 _ 30 (0, 0) N5.out
            have zf := fun i => frozen_of_row _ k5 i _ 30 N5.out
            go_simp
            have G4 := Shf.grown_set wd k5 0 (.slice A tl cp)
            have N4' := (G4.block k4 (Array.getElem?_eq_some_iff.1 N4.out).1 (fun e => by injection e with e; exact hne e)).trans N4.out
            have N5' := heap_setCell_same wd k5 0 _ 30 (.slice A tl cp) N5.out
            have O4' := own_grown O4.out G4 (notTy N5.out (by decide))
            have BW := Coin.below_grown hHeld G4 H5.out
            clear N4 N5 O4 c4 zf G4 hne
            have N4 := Lib.hid N4'
            have N5 := Lib.hid N5'
            have O4 := Lib.hid O4'
            clear N4' N5' O4'
            generalize wd.setCell ⟨k5, 0, none⟩ (.slice A tl cp) = wd at *
            refine hK.out _ _ (BW) (fun hHeld => ?_)
            clear hK K
            try simp only [Act.put, stA, stB, stC]
            clear BW
            refine wpAnyH_done (by kernel_rfl) ?_ _
            try unfold NoPanic
            go_wp2
            go_meet
            case rel => exact ⟨k4, k5, A, cp, rfl, rfl, N4.out, N5.out, H4.out, H5.out, O4.out, HA.out, hHeld⟩
        · go_simp
          have N4' := heap_alloc_new wd (.cells #[.string ⟨#[]⟩] 9)
          have B2 : Below wd.heap.size wd (wd.alloc (.cells #[.string ⟨#[]⟩] 9)) := (Below.refl _ _).alloc (Nat.le_refl _) _
          have BW := hHeld.trans (B2.mono hHeld.size)
          try (have N4 := Lib.hid ((B2.block _ (Array.getElem?_eq_some_iff.1 N4.out).1).trans N4.out))
          try (have N5 := Lib.hid ((B2.block _ (Array.getElem?_eq_some_iff.1 N5.out).1).trans N5.out))
          try (have O4 := Lib.hid (O4.out.kept B2))
          have H4 := Lib.hid hHeld.size
          obtain ⟨k4, hk5⟩ : ∃ k, k = wd.heap.size := ⟨_, rfl⟩
          rw [← hk5] at N4' H4
          have N4 := Lib.hid N4'
          clear N4' B2
          generalize wd.alloc (.cells #[.string ⟨#[]⟩] 9) = wd at *
          simp only [← hk5]
          clear hk5
          refine hK.out _ _ (BW) (fun hHeld => ?_)
          clear hK K
          try simp only [Act.put, stA, stB, stC]
          clear BW
          refine wpAnyH_ready (rs := [4, 6]) (by kernel_rfl) (by simp) ?_
          refine (AllReadyH.cons (o := ⟨some 16, .call ⟨.value (.func 104), #[.tmp 15], #[60]⟩, 30, "files.go:98", #[⟨3, .data⟩, ⟨2, .chain⟩], none⟩) rfl (fun K hK => ?_) (AllReadyH.cons (o := ⟨some 5, .alloc 30, 0, "files.go:98", #[], none⟩) rfl (fun K hK => ?_) AllReadyH.nil))
          · go_simp
            refine (HTI.out wd hHeld).mono ?_
            rintro e wd ⟨v9, rfl, O4', B2⟩
            obtain ⟨A, cp, rfl, -, -, hA⟩ := O4'.form
            rw [← HTL.out] at O4' ⊢
            have HA := Lib.hid hA
            have BW := hHeld.trans (B2.mono hHeld.size)
            try (have N4 := Lib.hid ((B2.block _ (Array.getElem?_eq_some_iff.1 N4.out).1).trans N4.out))
            try (have N5 := Lib.hid ((B2.block _ (Array.getElem?_eq_some_iff.1 N5.out).1).trans N5.out))
            try (have O4 := Lib.hid (O4.out.kept B2))
            have O4 := Lib.hid (own_le O4' hHeld.size)
            clear O4' B2 hA
            refine hK.out _ _ (BW) (fun hHeld => ?_)
            clear hK K
            try simp only [Act.put, stA, stB, stC]
            clear BW
            refine wpAnyH_ready (rs := [6]) (by kernel_rfl) (by simp) ?_
            refine AllReadyH.cons (o := ⟨some 5, .alloc 30, 0, "files.go:98", #[], none⟩) rfl (fun K hK => ?_) AllReadyH.nil
            go_simp
            have N5' := heap_alloc_new wd (.cells #[.slice none 0 0] 30)
            have B2 : Below wd.heap.size wd (wd.alloc (.cells #[.slice none 0 0] 30)) := (Below.refl _ _).alloc (Nat.le_refl _) _
            have BW := hHeld.trans (B2.mono hHeld.size)
            try (have N4 := Lib.hid ((B2.block _ (Array.getElem?_eq_some_iff.1 N4.out).1).trans N4.out))
            try (have N5 := Lib.hid ((B2.block _ (Array.getElem?_eq_some_iff.1 N5.out).1).trans N5.out))
            try (have O4 := Lib.hid (O4.out.kept B2))
            have H5 := Lib.hid hHeld.size
            obtain ⟨k5, hk5⟩ : ∃ k, k = wd.heap.size := ⟨_, rfl⟩
            rw [← hk5] at N5' H5
            have N5 := Lib.hid N5'
            clear N5' B2
            generalize wd.alloc (.cells #[.slice none 0 0] 30) = wd at *
            simp only [← hk5]
            clear hk5
            refine hK.out _ _ (BW) (fun hHeld => ?_)
            clear hK K
            try simp only [Act.put, stA, stB, stC]
            clear BW
            refine wpAnyH_ready (rs := [7]) (by kernel_rfl) (by simp) ?_
            refine AllReadyH.cons (o := ⟨none, .store 9 (.tmp 4) (.tmp 14), 0, "files.go:98", #[⟨5, .data⟩, ⟨2, .data⟩, ⟨4, .chain⟩, ⟨0, .phase⟩, ⟨1, .phase⟩, ⟨2, .phase⟩, ⟨3, .textOnly .lateStores⟩, ⟨4, .textOnly .lateStoresUnsure⟩, ⟨5, .phase⟩, ⟨6, .phase⟩], none⟩) rfl (fun K hK => ?_) AllReadyH.nil
            have hne : k5 ≠ k4 := fun e => by have a := N4.out; have b := N5.out; rw [e] at b; rw [a] at b; injection b with b; injection b with b1 b2; exact absurd b2 (by decide)
            have c4 : wd.cell? ⟨k4, 0, none⟩ = _ := cell_of_row wd k4 0 _ 9 (0, 0) N4.out
            have zf := fun i => frozen_of_row _ k4 i _ 9 N4.out
            go_simp
            have G4 := Shf.grown_set wd k4 0 (.string (str (vName no)))
            have N4' := heap_setCell_same wd k4 0 _ 9 (.string (str (vName no))) N4.out
            have N5' := (G4.block k5 (Array.getElem?_eq_some_iff.1 N5.out).1 (fun e => by injection e with e; exact hne e)).trans N5.out
            have O4' := own_grown O4.out G4 (notTy N4.out (by decide))
            have BW := Coin.below_grown hHeld G4 H4.out
            clear N4 N5 O4 c4 zf G4 hne
            have N4 := Lib.hid N4'
            have N5 := Lib.hid N5'
            have O4 := Lib.hid O4'
            clear N4' N5' O4'
            generalize wd.setCell ⟨k4, 0, none⟩ (.string (str (vName no))) = wd at *
            refine hK.out _ _ (BW) (fun hHeld => ?_)
            clear hK K
            try simp only [Act.put, stA, stB, stC]
            clear BW
            refine wpAnyH_ready (rs := [8]) (by kernel_rfl) (by simp) ?_
            refine AllReadyH.cons (o := ⟨none, .store 30 (.tmp 5) (.tmp 16), 0, "files.go:98", #[⟨6, .data⟩, ⟨4, .data⟩, ⟨7, .chain⟩, ⟨0, .phase⟩, ⟨1, .phase⟩, ⟨2, .phase⟩, ⟨3, .phase⟩, ⟨4, .phase⟩, ⟨5, .phase⟩, ⟨6, .phase⟩, ⟨7, .phase⟩], none⟩) rfl (fun K hK => ?_) AllReadyH.nil
            have hne : k4 ≠ k5 := fun e => by have a := N4.out; have b := N5.out; rw [← e] at b; rw [a] at b; injection b with b; injection b with b1 b2; exact absurd b2 (by decide)
            have c4 : wd.cell? ⟨k5, 0, none⟩ = _ := cell_of_row wd k5 0 _ 30 (0, 0) N5.out
            have zf := fun i => frozen_of_row _ k5 i _ 30 N5.out
            go_simp
            have G4 := Shf.grown_set wd k5 0 (.slice A tl cp)
            have N4' := (G4.block k4 (Array.getElem?_eq_some_iff.1 N4.out).1 (fun e => by injection e with e; exact hne e)).trans N4.out
            have N5' := heap_setCell_same wd k5 0 _ 30 (.slice A tl cp) N5.out
            have O4' := own_grown O4.out G4 (notTy N5.out (by decide))
            have BW := Coin.below_grown hHeld G4 H5.out
            clear N4 N5 O4 c4 zf G4 hne
            have N4 := Lib.hid N4'
            have N5 := Lib.hid N5'
            have O4 := Lib.hid O4'
            clear N4' N5' O4'
            generalize wd.setCell ⟨k5, 0, none⟩ (.slice A tl cp) = wd at *
            refine hK.out _ _ (BW) (fun hHeld => ?_)
            clear hK K
            try simp only [Act.put, stA, stB, stC]
            clear BW
            refine wpAnyH_done (by kernel_rfl) ?_ _
            try unfold NoPanic
            go_wp2
            go_meet
            case rel => exact ⟨k4, k5, A, cp, rfl, rfl, N4.out, N5.out, H4.out, H5.out, O4.out, HA.out, hHeld⟩
          · go_simp
            have N5' := heap_alloc_new wd (.cells #[.slice none 0 0] 30)
            have B2 : Below wd.heap.size wd (wd.alloc (.cells #[.slice none 0 0] 30)) := (Below.refl _ _).alloc (Nat.le_refl _) _
            have BW := hHeld.trans (B2.mono hHeld.size)
            try (have N4 := Lib.hid ((B2.block _ (Array.getElem?_eq_some_iff.1 N4.out).1).trans N4.out))
            try (have N5 := Lib.hid ((B2.block _ (Array.getElem?_eq_some_iff.1 N5.out).1).trans N5.out))
            try (have O4 := Lib.hid (O4.out.kept B2))
            have H5 := Lib.hid hHeld.size
            obtain ⟨k5, hk5⟩ : ∃ k, k = wd.heap.size := ⟨_, rfl⟩
            rw [← hk5] at N5' H5
            have N5 := Lib.hid N5'
            clear N5' B2
            generalize wd.alloc (.cells #[.slice none 0 0] 30) = wd at *
            simp only [← hk5]
            clear hk5
            refine hK.out _ _ (BW) (fun hHeld => ?_)
            clear hK K
            try simp only [Act.put, stA, stB, stC]
            clear BW
            refine wpAnyH_ready (rs := [4]) (by kernel_rfl) (by simp) ?_
            refine AllReadyH.cons (o := ⟨some 16, .call ⟨.value (.func 104), #[.tmp 15], #[60]⟩, 30, "files.go:98", #[⟨3, .data⟩, ⟨2, .chain⟩], none⟩) rfl (fun K hK => ?_) AllReadyH.nil
            go_simp
            refine (HTI.out wd hHeld).mono ?_
            rintro e wd ⟨v9, rfl, O4', B2⟩
            obtain ⟨A, cp, rfl, -, -, hA⟩ := O4'.form
            rw [← HTL.out] at O4' ⊢
            have HA := Lib.hid hA
            have BW := hHeld.trans (B2.mono hHeld.size)
            try (have N4 := Lib.hid ((B2.block _ (Array.getElem?_eq_some_iff.1 N4.out).1).trans N4.out))
            try (have N5 := Lib.hid ((B2.block _ (Array.getElem?_eq_some_iff.1 N5.out).1).trans N5.out))
            try (have O4 := Lib.hid (O4.out.kept B2))
            have O4 := Lib.hid (own_le O4' hHeld.size)
            clear O4' B2 hA
            refine hK.out _ _ (BW) (fun hHeld => ?_)
            clear hK K
            try simp only [Act.put, stA, stB, stC]
            clear BW
            refine wpAnyH_ready (rs := [7]) (by kernel_rfl) (by simp) ?_
            refine AllReadyH.cons (o := ⟨none, .store 9 (.tmp 4) (.tmp 14), 0, "files.go:98", #[⟨5, .data⟩, ⟨2, .data⟩, ⟨4, .chain⟩, ⟨0, .phase⟩, ⟨1, .phase⟩, ⟨2, .phase⟩, ⟨3, .textOnly .lateStores⟩, ⟨4, .textOnly .lateStoresUnsure⟩, ⟨5, .phase⟩, ⟨6, .phase⟩], none⟩) rfl (fun K hK => ?_) AllReadyH.nil
            have hne : k5 ≠ k4 := fun e => by have a := N4.out; have b := N5.out; rw [e] at b; rw [a] at b; injection b with b; injection b with b1 b2; exact absurd b2 (by decide)
            have c4 : wd.cell? ⟨k4, 0, none⟩ = _ := cell_of_row wd k4 0 _ 9 (0, 0) N4.out
            have zf := fun i => frozen_of_row _ k4 i _ 9 N4.out
            go_simp
            have G4 := Shf.grown_set wd k4 0 (.string (str (vName no)))
            have N4' := heap_setCell_same wd k4 0 _ 9 (.string (str (vName no))) N4.out
            have N5' := (G4.block k5 (Array.getElem?_eq_some_iff.1 N5.out).1 (fun e => by injection e with e; exact hne e)).trans N5.out
            have O4' := own_grown O4.out G4 (notTy N4.out (by decide))
            have BW := Coin.below_grown hHeld G4 H4.out
            clear N4 N5 O4 c4 zf G4 hne
            have N4 := Lib.hid N4'
            have N5 := Lib.hid N5'
            have O4 := Lib.hid O4'
            clear N4' N5' O4'
            generalize wd.setCell ⟨k4, 0, none⟩ (.string (str (vName no))) = wd at *
            refine hK.out _ _ (BW) (fun hHeld => ?_)
            clear hK K
            try simp only [Act.put, stA, stB, stC]
            clear BW
            refine wpAnyH_ready (rs := [8]) (by kernel_rfl) (by simp) ?_
            refine AllReadyH.cons (o := ⟨none, .store 30 (.tmp 5) (.tmp 16), 0, "files.go:98", #[⟨6, .data⟩, ⟨4, .data⟩, ⟨7, .chain⟩, ⟨0, .phase⟩, ⟨1, .phase⟩, ⟨2, .phase⟩, ⟨3, .phase⟩, ⟨4, .phase⟩, ⟨5, .phase⟩, ⟨6, .phase⟩, ⟨7, .phase⟩], none⟩) rfl (fun K hK => ?_) AllReadyH.nil
            have hne : k4 ≠ k5 := fun e => by have a := N4.out; have b := N5.out; rw [← e] at b; rw [a] at b; injection b with b; injection b with b1 b2; exact absurd b2 (by decide)
            have c4 : wd.cell? ⟨k5, 0, none⟩ = _ := cell_of_row wd k5 0 _ 30 (0, 0) N5.out
            have zf := fun i => frozen_of_row _ k5 i _ 30 N5.out
            go_simp
            have G4 := Shf.grown_set wd k5 0 (.slice A tl cp)
            have N4' := (G4.block k4 (Array.getElem?_eq_some_iff.1 N4.out).1 (fun e => by injection e with e; exact hne e)).trans N4.out
            have N5' := heap_setCell_same wd k5 0 _ 30 (.slice A tl cp) N5.out
            have O4' := own_grown O4.out G4 (notTy N5.out (by decide))
            have BW := Coin.below_grown hHeld G4 H5.out
            clear N4 N5 O4 c4 zf G4 hne
            have N4 := Lib.hid N4'
            have N5 := Lib.hid N5'
            have O4 := Lib.hid O4'
            clear N4' N5' O4'
            generalize wd.setCell ⟨k5, 0, none⟩ (.slice A tl cp) = wd at *
            refine hK.out _ _ (BW) (fun hHeld => ?_)
            clear hK K
            try simp only [Act.put, stA, stB, stC]
            clear BW
            refine wpAnyH_done (by kernel_rfl) ?_ _
            try unfold NoPanic
            go_wp2
            go_meet
            case rel => exact ⟨k4, k5, A, cp, rfl, rfl, N4.out, N5.out, H4.out, H5.out, O4.out, HA.out, hHeld⟩
        · go_simp
          have N5' := heap_alloc_new wd (.cells #[.slice none 0 0] 30)
          have B2 : Below wd.heap.size wd (wd.alloc (.cells #[.slice none 0 0] 30)) := (Below.refl _ _).alloc (Nat.le_refl _) _
          have BW := hHeld.trans (B2.mono hHeld.size)
          try (have N4 := Lib.hid ((B2.block _ (Array.getElem?_eq_some_iff.1 N4.out).1).trans N4.out))
          try (have N5 := Lib.hid ((B2.block _ (Array.getElem?_eq_some_iff.1 N5.out).1).trans N5.out))
          try (have O4 := Lib.hid (O4.out.kept B2))
          have H5 := Lib.hid hHeld.size
          obtain ⟨k5, hk5⟩ : ∃ k, k = wd.heap.size := ⟨_, rfl⟩
          rw [← hk5] at N5' H5
          have N5 := Lib.hid N5'
          clear N5' B2
          generalize wd.alloc (.cells #[.slice none 0 0] 30) = wd at *
          simp only [← hk5]
          clear hk5
          refine hK.out _ _ (BW) (fun hHeld => ?_)
          clear hK K
          try simp only [Act.put, stA, stB, stC]
          clear BW
          refine wpAnyH_ready (rs := [4, 5]) (by kernel_rfl) (by simp) ?_
          refine (AllReadyH.cons (o := ⟨some 16, .call ⟨.value (.func 104), #[.tmp 15], #[60]⟩, 30, "files.go:98", #[⟨3, .data⟩, ⟨2, .chain⟩], none⟩) rfl (fun K hK => ?_) (AllReadyH.cons (o := ⟨some 4, .alloc 9, 0, "files.go:98", #[], none⟩) rfl (fun K hK => ?_) AllReadyH.nil))
          · go_simp
            refine (HTI.out wd hHeld).mono ?_
            rintro e wd ⟨v9, rfl, O4', B2⟩
            obtain ⟨A, cp, rfl, -, -, hA⟩ := O4'.form
            rw [← HTL.out] at O4' ⊢
            have HA := Lib.hid hA
            have BW := hHeld.trans (B2.mono hHeld.size)
            try (have N4 := Lib.hid ((B2.block _ (Array.getElem?_eq_some_iff.1 N4.out).1).trans N4.out))
            try (have N5 := Lib.hid ((B2.block _ (Array.getElem?_eq_some_iff.1 N5.out).1).trans N5.out))
            try (have O4 := Lib.hid (O4.out.kept B2))
            have O4 := Lib.hid (own_le O4' hHeld.size)
            clear O4' B2 hA
            refine hK.out _ _ (BW) (fun hHeld => ?_)
            clear hK K
            try simp only [Act.put, stA, stB, stC]
            clear BW
            refine wpAnyH_ready (rs := [5]) (by kernel_rfl) (by simp) ?_
            refine AllReadyH.cons (o := ⟨some 4, .alloc 9, 0, "files.go:98", #[], none⟩) rfl (fun K hK => ?_) AllReadyH.nil
            go_simp
            have N4' := heap_alloc_new wd (.cells #[.string ⟨#[]⟩] 9)
            have B2 : Below wd.heap.size wd (wd.alloc (.cells #[.string ⟨#[]⟩] 9)) := (Below.refl _ _).alloc (Nat.le_refl _) _
            have BW := hHeld.trans (B2.mono hHeld.size)
            try (have N4 := Lib.hid ((B2.block _ (Array.getElem?_eq_some_iff.1 N4.out).1).trans N4.out))
            try (have N5 := Lib.hid ((B2.block _ (Array.getElem?_eq_some_iff.1 N5.out).1).trans N5.out))
            try (have O4 := Lib.hid (O4.out.kept B2))
            have H4 := Lib.hid hHeld.size
            obtain ⟨k4, hk5⟩ : ∃ k, k = wd.heap.size := ⟨_, rfl⟩
            rw [← hk5] at N4' H4
            have N4 := Lib.hid N4'
            clear N4' B2
            generalize wd.alloc (.cells #[.string ⟨#[]⟩] 9) = wd at *
            simp only [← hk5]
            clear hk5
            refine hK.out _ _ (BW) (fun hHeld => ?_)
            clear hK K
            try simp only [Act.put, stA, stB, stC]
            clear BW
            refine wpAnyH_ready (rs := [7]) (by kernel_rfl) (by simp) ?_
            refine AllReadyH.cons (o := ⟨none, .store 9 (.tmp 4) (.tmp 14), 0, "files.go:98", #[⟨5, .data⟩, ⟨2, .data⟩, ⟨4, .chain⟩, ⟨0, .phase⟩, ⟨1, .phase⟩, ⟨2, .phase⟩, ⟨3, .textOnly .lateStores⟩, ⟨4, .textOnly .lateStoresUnsure⟩, ⟨5, .phase⟩, ⟨6, .phase⟩], none⟩) rfl (fun K hK => ?_) AllReadyH.nil
            have hne : k5 ≠ k4 := fun e => by have a := N4.out; have b := N5.out; rw [e] at b; rw [a] at b; injection b with b; injection b with b1 b2; exact absurd b2 (by decide)
            have c4 : wd.cell? ⟨k4, 0, none⟩ = _ := cell_of_row wd k4 0 _ 9 (0, 0) N4.out
            have zf := fun i => frozen_of_row _ k4 i _ 9 N4.out
            go_simp
            have G4 := Shf.grown_set wd k4 0 (.string (str (vName no)))
            have N4' := heap_setCell_same wd k4 0 _ 9 (.string (str (vName no))) N4.out
            have N5' := (G4.block k5 (Array.getElem?_eq_some_iff.1 N5.out).1 (fun e => by injection e with e; exact hne e)).trans N5.out
            have O4' := own_grown O4.out G4 (notTy N4.out (by decide))
            have BW := Coin.below_grown hHeld G4 H4.out
            clear N4 N5 O4 c4 zf G4 hne
            have N4 := Lib.hid N4'
            have N5 := Lib.hid N5'
            have O4 := Lib.hid O4'
            clear N4' N5' O4'
            generalize wd.setCell ⟨k4, 0, none⟩ (.string (str (vName no))) = wd at *
            refine hK.out _ _ (BW) (fun hHeld => ?_)
            clear hK K
            try simp only [Act.put, stA, stB, stC]
            clear BW
            refine wpAnyH_ready (rs := [8]) (by kernel_rfl) (by simp) ?_
            refine AllReadyH.cons (o := ⟨none, .store 30 (.tmp 5) (.tmp 16), 0, "files.go:98", #[⟨6, .data⟩, ⟨4, .data⟩, ⟨7, .chain⟩, ⟨0, .phase⟩, ⟨1, .phase⟩, ⟨2, .phase⟩, ⟨3, .phase⟩, ⟨4, .phase⟩, ⟨5, .phase⟩, ⟨6, .phase⟩, ⟨7, .phase⟩], none⟩) rfl (fun K hK => ?_) AllReadyH.nil
            have hne : k4 ≠ k5 := fun e => by have a := N4.out; have b := N5.out; rw [← e] at b; rw [a] at b; injection b with b; injection b with b1 b2; exact absurd b2 (by decide)
            have c4 : wd.cell? ⟨k5, 0, none⟩ = _ := cell_of_row wd k5 0 _ 30 (0, 0) N5.out
            have zf := fun i => frozen_of_row _ k5 i _ 30 N5.out
            go_simp
            have G4 := Shf.grown_set wd k5 0 (.slice A tl cp)
            have N4' := (G4.block k4 (Array.getElem?_eq_some_iff.1 N4.out).1 (fun e => by injection e with e; exact hne e)).trans N4.out
            have N5' := heap_setCell_same wd k5 0 _ 30 (.slice A tl cp) N5.out
            have O4' := own_grown O4.out G4 (notTy N5.out (by decide))
            have BW := Coin.below_grown hHeld G4 H5.out
            clear N4 N5 O4 c4 zf G4 hne
            have N4 := Lib.hid N4'
            have N5 := Lib.hid N5'
            have O4 := Lib.hid O4'
            clear N4' N5' O4'
            generalize wd.setCell ⟨k5, 0, none⟩ (.slice A tl cp) = wd at *
            refine hK.out _ _ (BW) (fun hHeld => ?_)
            clear hK K
            try simp only [Act.put, stA, stB, stC]
            clear BW
            refine wpAnyH_done (by kernel_rfl) ?_ _
            try unfold NoPanic
            go_wp2
            go_meet
            case rel => exact ⟨k4, k5, A, cp, rfl, rfl, N4.out, N5.out, H4.out, H5.out, O4.out, HA.out, hHeld⟩
          · go_simp
            have N4' := heap_alloc_new wd (.cells #[.string ⟨#[]⟩] 9)
            have B2 : Below wd.heap.size wd (wd.alloc (.cells #[.string ⟨#[]⟩] 9)) := (Below.refl _ _).alloc (Nat.le_refl _) _
            have BW := hHeld.trans (B2.mono hHeld.size)
            try (have N4 := Lib.hid ((B2.block _ (Array.getElem?_eq_some_iff.1 N4.out).1).trans N4.out))
            try (have N5 := Lib.hid ((B2.block _ (Array.getElem?_eq_some_iff.1 N5.out).1).trans N5.out))
            try (have O4 := Lib.hid (O4.out.kept B2))
            have H4 := Lib.hid hHeld.size
            obtain ⟨k4, hk5⟩ : ∃ k, k = wd.heap.size := ⟨_, rfl⟩
            rw [← hk5] at N4' H4
            have N4 := Lib.hid N4'
            clear N4' B2
            generalize wd.alloc (.cells #[.string ⟨#[]⟩] 9) = wd at *
            simp only [← hk5]
            clear hk5
            refine hK.out _ _ (BW) (fun hHeld => ?_)
            clear hK K
            try simp only [Act.put, stA, stB, stC]
            clear BW
            refine wpAnyH_ready (rs := [4]) (by kernel_rfl) (by simp) ?_
            refine AllReadyH.cons (o := ⟨some 16, .call ⟨.value (.func 104), #[.tmp 15], #[60]⟩, 30, "files.go:98", #[⟨3, .data⟩, ⟨2, .chain⟩], none⟩) rfl (fun K hK => ?_) AllReadyH.nil
            go_simp
            refine (HTI.out wd hHeld).mono ?_
            rintro e wd ⟨v9, rfl, O4', B2⟩
            obtain ⟨A, cp, rfl, -, -, hA⟩ := O4'.form
            rw [← HTL.out] at O4' ⊢
            have HA := Lib.hid hA
            have BW := hHeld.trans (B2.mono hHeld.size)
            try (have N4 := Lib.hid ((B2.block _ (Array.getElem?_eq_some_iff.1 N4.out).1).trans N4.out))
            try (have N5 := Lib.hid ((B2.block _ (Array.getElem?_eq_some_iff.1 N5.out).1).trans N5.out))
            try (have O4 := Lib.hid (O4.out.kept B2))
            have O4 := Lib.hid (own_le O4' hHeld.size)
            clear O4' B2 hA
            refine hK.out _ _ (BW) (fun hHeld => ?_)
            clear hK K
            try simp only [Act.put, stA, stB, stC]
            clear BW
            refine wpAnyH_ready (rs := [7]) (by kernel_rfl) (by simp) ?_
            refine AllReadyH.cons (o := ⟨none, .store 9 (.tmp 4) (.tmp 14), 0, "files.go:98", #[⟨5, .data⟩, ⟨2, .data⟩, ⟨4, .chain⟩, ⟨0, .phase⟩, ⟨1, .phase⟩, ⟨2, .phase⟩, ⟨3, .textOnly .lateStores⟩, ⟨4, .textOnly .lateStoresUnsure⟩, ⟨5, .phase⟩, ⟨6, .phase⟩], none⟩) rfl (fun K hK => ?_) AllReadyH.nil
            have hne : k5 ≠ k4 := fun e => by have a := N4.out; have b := N5.out; rw [e] at b; rw [a] at b; injection b with b; injection b with b1 b2; exact absurd b2 (by decide)
            have c4 : wd.cell? ⟨k4, 0, none⟩ = _ := cell_of_row wd k4 0 _ 9 (0, 0) N4.out
            have zf := fun i => frozen_of_row _ k4 i _ 9 N4.out
            go_simp
            have G4 := Shf.grown_set wd k4 0 (.string (str (vName no)))
            have N4' := heap_setCell_same wd k4 0 _ 9 (.string (str (vName no))) N4.out
            have N5' := (G4.block k5 (Array.getElem?_eq_some_iff.1 N5.out).1 (fun e => by injection e with e; exact hne e)).trans N5.out
            have O4' := own_grown O4.out G4 (notTy N4.out (by decide))
            have BW := Coin.below_grown hHeld G4 H4.out
            clear N4 N5 O4 c4 zf G4 hne
            have N4 := Lib.hid N4'
            have N5 := Lib.hid N5'
            have O4 := Lib.hid O4'
            clear N4' N5' O4'
            generalize wd.setCell ⟨k4, 0, none⟩ (.string (str (vName no))) = wd at *
            refine hK.out _ _ (BW) (fun hHeld => ?_)
            clear hK K
            try simp only [Act.put, stA, stB, stC]
            clear BW
            refine wpAnyH_ready (rs := [8]) (by kernel_rfl) (by simp) ?_
            refine AllReadyH.cons (o := ⟨none, .store 30 (.tmp 5) (.tmp 16), 0, "files.go:98", #[⟨6, .data⟩, ⟨4, .data⟩, ⟨7, .chain⟩, ⟨0, .phase⟩, ⟨1, .phase⟩, ⟨2, .phase⟩, ⟨3, .phase⟩, ⟨4, .phase⟩, ⟨5, .phase⟩, ⟨6, .phase⟩, ⟨7, .phase⟩], none⟩) rfl (fun K hK => ?_) AllReadyH.nil
            have hne : k4 ≠ k5 := fun e => by have a := N4.out; have b := N5.out; rw [← e] at b; rw [a] at b; injection b with b; injection b with b1 b2; exact absurd b2 (by decide)
            have c4 : wd.cell? ⟨k5, 0, none⟩ = _ := cell_of_row wd k5 0 _ 30 (0, 0) N5.out
            have zf := fun i => frozen_of_row _ k5 i _ 30 N5.out
            go_simp
            have G4 := Shf.grown_set wd k5 0 (.slice A tl cp)
            have N4' := (G4.block k4 (Array.getElem?_eq_some_iff.1 N4.out).1 (fun e => by injection e with e; exact hne e)).trans N4.out
            have N5' := heap_setCell_same wd k5 0 _ 30 (.slice A tl cp) N5.out
            have O4' := own_grown O4.out G4 (notTy N5.out (by decide))
            have BW := Coin.below_grown hHeld G4 H5.out
            clear N4 N5 O4 c4 zf G4 hne
            have N4 := Lib.hid N4'
            have N5 := Lib.hid N5'
            have O4 := Lib.hid O4'
            clear N4' N5' O4'
            generalize wd.setCell ⟨k5, 0, none⟩ (.slice A tl cp) = wd at *
            refine hK.out _ _ (BW) (fun hHeld => ?_)
            clear hK K
            try simp only [Act.put, stA, stB, stC]
            clear BW
            refine wpAnyH_done (by kernel_rfl) ?_ _
            try unfold NoPanic
            go_wp2
            go_meet
            case rel => exact ⟨k4, k5, A, cp, rfl, rfl, N4.out, N5.out, H4.out, H5.out, O4.out, HA.out, hHeld⟩
      · go_simp
        have N4' := heap_alloc_new wd (.cells #[.string ⟨#[]⟩] 9)
        have B2 : Below wd.heap.size wd (wd.alloc (.cells #[.string ⟨#[]⟩] 9)) := (Below.refl _ _).alloc (Nat.le_refl _) _
        have BW := hHeld.trans (B2.mono hHeld.size)
        try (have N4 := Lib.hid ((B2.block _ (Array.getElem?_eq_some_iff.1 N4.out).1).trans N4.out))
        try (have N5 := Lib.hid ((B2.block _ (Array.getElem?_eq_some_iff.1 N5.out).1).trans N5.out))
        try (have O4 := Lib.hid (O4.out.kept B2))
        have H4 := Lib.hid hHeld.size
        obtain ⟨k4, hk5⟩ : ∃ k, k = wd.heap.size := ⟨_, rfl⟩
        rw [← hk5] at N4' H4
        have N4 := Lib.hid N4'
        clear N4' B2
        generalize wd.alloc (.cells #[.string ⟨#[]⟩] 9) = wd at *
        simp only [← hk5]
        clear hk5
        refine hK.out _ _ (BW) (fun hHeld => ?_)
        clear hK K
        try simp only [Act.put, stA, stB, stC]
        clear BW
        refine wpAnyH_ready (rs := [2, 6]) (by kernel_rfl) (by simp) ?_
        refine (AllReadyH.cons (o := ⟨some 14, .call ⟨.value (.func 26), #[.tmp 13], #[42]⟩, 9, "files.go:98", #[⟨1, .data⟩], none⟩) rfl (fun K hK => ?_) (AllReadyH.cons (o := ⟨some 5, .alloc 30, 0, "files.go:98", #[], none⟩) rfl (fun K hK => ?_) AllReadyH.nil))
        · go_simp
          refine (name_any wd no HNO.out).mono ?_
          rintro e wx ⟨rfl, rfl⟩
          refine hK.out _ _ (hHeld) (fun hHeld => ?_)
          clear hK K
          try simp only [Act.put, stA, stB, stC]
          skip
          refine wpAnyH_ready (rs := [4, 6]) (by kernel_rfl) (by simp) ?_
          refine (AllReadyH.cons (o := ⟨some 16, .call ⟨.value (.func 104), #[.tmp 15], #[60]⟩, 30, "files.go:98", #[⟨3, .data⟩, ⟨2, .chain⟩], none⟩) rfl (fun K hK => ?_) (AllReadyH.cons (o := ⟨some 5, .alloc 30, 0, "files.go:98", #[], none⟩) rfl (fun K hK => ?_) AllReadyH.nil))
          · go_simp
            refine (HTI.out wd hHeld).mono ?_
            rintro e wd ⟨v9, rfl, O4', B2⟩
            obtain ⟨A, cp, rfl, -, -, hA⟩ := O4'.form
            rw [← HTL.out] at O4' ⊢
            have HA := Lib.hid hA
            have BW := hHeld.trans (B2.mono hHeld.size)
            try (have N4 := Lib.hid ((B2.block _ (Array.getElem?_eq_some_iff.1 N4.out).1).trans N4.out))
            try (have N5 := Lib.hid ((B2.block _ (Array.getElem?_eq_some_iff.1 N5.out).1).trans N5.out))
            try (have O4 := Lib.hid (O4.out.kept B2))
            have O4 := Lib.hid (own_le O4' hHeld.size)
            clear O4' B2 hA
            refine hK.out _ _ (BW) (fun hHeld => ?_)
            clear hK K
            try simp only [Act.put, stA, stB, stC]
            clear BW
            refine wpAnyH_ready (rs := [6]) (by kernel_rfl) (by simp) ?_
            refine AllReadyH.cons (o := ⟨some 5, .alloc 30, 0, "files.go:98", #[], none⟩) rfl (fun K hK => ?_) AllReadyH.nil
            go_simp
            have N5' := heap_alloc_new wd (.cells #[.slice none 0 0] 30)
            have B2 : Below wd.heap.size wd (wd.alloc (.cells #[.slice none 0 0] 30)) := (Below.refl _ _).alloc (Nat.le_refl _) _
            have BW := hHeld.trans (B2.mono hHeld.size)
            try (have N4 := Lib.hid ((B2.block _ (Array.getElem?_eq_some_iff.1 N4.out).1).trans N4.out))
            try (have N5 := Lib.hid ((B2.block _ (Array.getElem?_eq_some_iff.1 N5.out).1).trans N5.out))
            try (have O4 := Lib.hid (O4.out.kept B2))
            have H5 := Lib.hid hHeld.size
            obtain ⟨k5, hk5⟩ : ∃ k, k = wd.heap.size := ⟨_, rfl⟩
            rw [← hk5] at N5' H5
            have N5 := Lib.hid N5'
            clear N5' B2
            generalize wd.alloc (.cells #[.slice none 0 0] 30) = wd at *
            simp only [← hk5]
            clear hk5
            refine hK.out _ _ (BW) (fun hHeld => ?_)
            clear hK K
            try simp only [Act.put, stA, stB, stC]
            clear BW
            refine wpAnyH_ready (rs := [7]) (by kernel_rfl) (by simp) ?_
            refine AllReadyH.cons (o := ⟨none, .store 9 (.tmp 4) (.tmp 14), 0, "files.go:98", #[⟨5, .data⟩, ⟨2, .data⟩, ⟨4, .chain⟩, ⟨0, .phase⟩, ⟨1, .phase⟩, ⟨2, .phase⟩, ⟨3, .textOnly .lateStores⟩, ⟨4, .textOnly .lateStoresUnsure⟩, ⟨5, .phase⟩, ⟨6, .phase⟩], none⟩) rfl (fun K hK => ?_) AllReadyH.nil
            have hne : k5 ≠ k4 := fun e => by have a := N4.out; have b := N5.out; rw [e] at b; rw [a] at b; injection b with b; injection b with b1 b2; exact absurd b2 (by decide)
            have c4 : wd.cell? ⟨k4, 0, none⟩ = _ := cell_of_row wd k4 0 _ 9 (0, 0) N4.out
            have zf := fun i => frozen_of_row _ k4 i _ 9 N4.out
            go_simp
            have G4 := Shf.grown_set wd k4 0 (.string (str (vName no)))
            have N4' := heap_setCell_same wd k4 0 _ 9 (.string (str (vName no))) N4.out
            have N5' := (G4.block k5 (Array.getElem?_eq_some_iff.1 N5.out).1 (fun e => by injection e with e; exact hne e)).trans N5.out
            have O4' := own_grown O4.out G4 (notTy N4.out (by decide))
            have BW := Coin.below_grown hHeld G4 H4.out
            clear N4 N5 O4 c4 zf G4 hne
            have N4 := Lib.hid N4'
            have N5 := Lib.hid N5'
            have O4 := Lib.hid O4'
            clear N4' N5' O4'
            generalize wd.setCell ⟨k4, 0, none⟩ (.string (str (vName no))) = wd at *
            refine hK.out _ _ (BW) (fun hHeld => ?_)
            clear hK K
            try simp only [Act.put, stA, stB, stC]
            clear BW
            refine wpAnyH_ready (rs := [8]) (by kernel_rfl) (by simp) ?_
            refine AllReadyH.cons (o := ⟨none, .store 30 (.tmp 5) (.tmp 16), 0, "files.go:98", #[⟨6, .data⟩, ⟨4, .data⟩, ⟨7, .chain⟩, ⟨0, .phase⟩, ⟨1, .phase⟩, ⟨2, .phase⟩, ⟨3, .phase⟩, ⟨4, .phase⟩, ⟨5, .phase⟩, ⟨6, .phase⟩, ⟨7, .phase⟩], none⟩) rfl (fun K hK => ?_) AllReadyH.nil
            have hne : k4 ≠ k5 := fun e => by have a := N4.out; have b := N5.out; rw [← e] at b; rw [a] at b; injection b with b; injection b with b1 b2; exact absurd b2 (by decide)
            have c4 : wd.cell? ⟨k5, 0, none⟩ = _ := cell_of_row wd k5 0 _ 30 (0, 0) N5.out
            have zf := fun i => frozen_of_row _ k5 i _ 30 N5.out
            go_simp
            have G4 := Shf.grown_set wd k5 0 (.slice A tl cp)
            have N4' := (G4.block k4 (Array.getElem?_eq_some_iff.1 N4.out).1 (fun e => by injection e with e; exact hne e)).trans N4.out
            have N5' := heap_setCell_same wd k5 0 _ 30 (.slice A tl cp) N5.out
            have O4' := own_grown O4.out G4 (notTy N5.out (by decide))
            have BW := Coin.below_grown hHeld G4 H5.out
            clear N4 N5 O4 c4 zf G4 hne
            have N4 := Lib.hid N4'
            have N5 := Lib.hid N5'
            have O4 := Lib.hid O4'
            clear N4' N5' O4'
            generalize wd.setCell ⟨k5, 0, none⟩ (.slice A tl cp) = wd at *
            refine hK.out _ _ (BW) (fun hHeld => ?_)
            clear hK K
            try simp only [Act.put, stA, stB, stC]
            clear BW
            refine wpAnyH_done (by kernel_rfl) ?_ _
            try unfold NoPanic
            go_wp2
            go_meet
            case rel => exact ⟨k4, k5, A, cp, rfl, rfl, N4.out, N5.out, H4.out, H5.out, O4.out, HA.out, hHeld⟩
          · go_simp
            have N5' := heap_alloc_new wd (.cells #[.slice none 0 0] 30)
            have B2 : Below wd.heap.size wd (wd.alloc (.cells #[.slice none 0 0] 30)) := (Below.refl _ _).alloc (Nat.le_refl _) _
            have BW := hHeld.trans (B2.mono hHeld.size)
            try (have N4 := Lib.hid ((B2.block _ (Array.getElem?_eq_some_iff.1 N4.out).1).trans N4.out))
            try (have N5 := Lib.hid ((B2.block _ (Array.getElem?_eq_some_iff.1 N5.out).1).trans N5.out))
            try (have O4 := Lib.hid (O4.out.kept B2))
            have H5 := Lib.hid hHeld.size
            obtain ⟨k5, hk5⟩ : ∃ k, k = wd.heap.size := ⟨_, rfl⟩
            rw [← hk5] at N5' H5
            have N5 := Lib.hid N5'
            clear N5' B2
            generalize wd.alloc (.cells #[.slice none 0 0] 30) = wd at *
            simp only [← hk5]
            clear hk5
            refine hK.out _ _ (BW) (fun hHeld => ?_)
            clear hK K
            try simp only [Act.put, stA, stB, stC]
            clear BW
            refine wpAnyH_ready (rs := [4]) (by kernel_rfl) (by simp) ?_
            refine AllReadyH.cons (o := ⟨some 16, .call ⟨.value (.func 104), #[.tmp 15], #[60]⟩, 30, "files.go:98", #[⟨3, .data⟩, ⟨2, .chain⟩], none⟩) rfl (fun K hK => ?_) AllReadyH.nil
            go_simp
            refine (HTI.out wd hHeld).mono ?_
            rintro e wd ⟨v9, rfl, O4', B2⟩
            obtain ⟨A, cp, rfl, -, -, hA⟩ := O4'.form
            rw [← HTL.out] at O4' ⊢
            have HA := Lib.hid hA
            have BW := hHeld.trans (B2.mono hHeld.size)
            try (have N4 := Lib.hid ((B2.block _ (Array.getElem?_eq_some_iff.1 N4.out).1).trans N4.out))
            try (have N5 := Lib.hid ((B2.block _ (Array.getElem?_eq_some_iff.1 N5.out).1).trans N5.out))
            try (have O4 := Lib.hid (O4.out.kept B2))
            have O4 := Lib.hid (own_le O4' hHeld.size)
            clear O4' B2 hA
            refine hK.out _ _ (BW) (fun hHeld => ?_)
            clear hK K
            try simp only [Act.put, stA, stB, stC]
            clear BW
            refine wpAnyH_ready (rs := [7]) (by kernel_rfl) (by simp) ?_
            refine AllReadyH.cons (o := ⟨none, .store 9 (.tmp 4) (.tmp 14), 0, "files.go:98", #[⟨5, .data⟩, ⟨2, .data⟩, ⟨4, .chain⟩, ⟨0, .phase⟩, ⟨1, .phase⟩, ⟨2, .phase⟩, ⟨3, .textOnly .lateStores⟩, ⟨4, .textOnly .lateStoresUnsure⟩, ⟨5, .phase⟩, ⟨6, .phase⟩], none⟩) rfl (fun K hK => ?_) AllReadyH.nil
            have hne : k5 ≠ k4 := fun e => by have a := N4.out; have b := N5.out; rw [e] at b; rw [a] at b; injection b with b; injection b with b1 b2; exact absurd b2 (by decide)
            have c4 : wd.cell? ⟨k4, 0, none⟩ = _ := cell_of_row wd k4 0 _ 9 (0, 0) N4.out
            have zf := fun i => frozen_of_row _ k4 i _ 9 N4.out
            go_simp
            have G4 := Shf.grown_set wd k4 0 (.string (str (vName no)))
            have N4' := heap_setCell_same wd k4 0 _ 9 (.string (str (vName no))) N4.out
            have N5' := (G4.block k5 (Array.getElem?_eq_some_iff.1 N5.out).1 (fun e => by injection e with e; exact hne e)).trans N5.out
            have O4' := own_grown O4.out G4 (notTy N4.out (by decide))
            have BW := Coin.below_grown hHeld G4 H4.out
            clear N4 N5 O4 c4 zf G4 hne
            have N4 := Lib.hid N4'
            have N5 := Lib.hid N5'
            have O4 := Lib.hid O4'
            clear N4' N5' O4'
            generalize wd.setCell ⟨k4, 0, none⟩ (.string (str (vName no))) = wd at *
            refine hK.out _ _ (BW) (fun hHeld => ?_)
            clear hK K
            try simp only [Act.put, stA, stB, stC]
            clear BW
            refine wpAnyH_ready (rs := [8]) (by kernel_rfl) (by simp) ?_
            refine AllReadyH.cons (o := ⟨none, .store 30 (.tmp 5) (.tmp 16), 0, "files.go:98", #[⟨6, .data⟩, ⟨4, .data⟩, ⟨7, .chain⟩, ⟨0, .phase⟩, ⟨1, .phase⟩, ⟨2, .phase⟩, ⟨3, .phase⟩, ⟨4, .phase⟩, ⟨5, .phase⟩, ⟨6, .phase⟩, ⟨7, .phase⟩], none⟩) rfl (fun K hK => ?_) AllReadyH.nil
            have hne : k4 ≠ k5 := fun e => by have a := N4.out; have b := N5.out; rw [← e] at b; rw [a] at b; injection b with b; injection b with b1 b2; exact absurd b2 (by decide)
            have c4 : wd.cell? ⟨k5, 0, none⟩ = _ := cell_of_row wd k5 0 _ 30 (0, 0) N5.out
            have zf := fun i => frozen_of_row _ k5 i _ 30 N5.out
            go_simp
            have G4 := Shf.grown_set wd k5 0 (.slice A tl cp)
            have N4' := (G4.block k4 (Array.getElem?_eq_some_iff.1 N4.out).1 (fun e => by injection e with e; exact hne e)).trans N4.out
            have N5' := heap_setCell_same wd k5 0 _ 30 (.slice A tl cp) N5.out
            have O4' := own_grown O4.out G4 (notTy N5.out (by decide))
            have BW := Coin.below_grown hHeld G4 H5.out
            clear N4 N5 O4 c4 zf G4 hne
            have N4 := Lib.hid N4'
            have N5 := Lib.hid N5'
            have O4 := Lib.hid O4'
            clear N4' N5' O4'
            generalize wd.setCell ⟨k5, 0, none⟩ (.slice A tl cp) = wd at *
            refine hK.out _ _ (BW) (fun hHeld => ?_)
            clear hK K
            try simp only [Act.put, stA, stB, stC]
            clear BW
            refine wpAnyH_done (by kernel_rfl) ?_ _
            try unfold NoPanic
            go_wp2
            go_meet
            case rel => exact ⟨k4, k5, A, cp, rfl, rfl, N4.out, N5.out, H4.out, H5.out, O4.out, HA.out, hHeld⟩
        · go_simp
          have N5' := heap_alloc_new wd (.cells #[.slice none 0 0] 30)
          have B2 : Below wd.heap.size wd (wd.alloc (.cells #[.slice none 0 0] 30)) := (Below.refl _ _).alloc (Nat.le_refl _) _
          have BW := hHeld.trans (B2.mono hHeld.size)
          try (have N4 := Lib.hid ((B2.block _ (Array.getElem?_eq_some_iff.1 N4.out).1).trans N4.out))
          try (have N5 := Lib.hid ((B2.block _ (Array.getElem?_eq_some_iff.1 N5.out).1).trans N5.out))
          try (have O4 := Lib.hid (O4.out.kept B2))
          have H5 := Lib.hid hHeld.size
          obtain ⟨k5, hk5⟩ : ∃ k, k = wd.heap.size := ⟨_, rfl⟩
          rw [← hk5] at N5' H5
          have N5 := Lib.hid N5'
          clear N5' B2
          generalize wd.alloc (.cells #[.slice none 0 0] 30) = wd at *
          simp only [← hk5]
          clear hk5
          refine hK.out _ _ (BW) (fun hHeld => ?_)
          clear hK K
          try simp only [Act.put, stA, stB, stC]
          clear BW
          refine wpAnyH_ready (rs := [2]) (by kernel_rfl) (by simp) ?_
          refine AllReadyH.cons (o := ⟨some 14, .call ⟨.value (.func 26), #[.tmp 13], #[42]⟩, 9, "files.go:98", #[⟨1, .data⟩], none⟩) rfl (fun K hK => ?_) AllReadyH.nil
          go_simp
          refine (name_any wd no HNO.out).mono ?_
          rintro e wx ⟨rfl, rfl⟩
          refine hK.out _ _ (hHeld) (fun hHeld => ?_)
          clear hK K
          try simp only [Act.put, stA, stB, stC]
          skip
          refine wpAnyH_ready (rs := [4]) (by kernel_rfl) (by simp) ?_
          refine AllReadyH.cons (o := ⟨some 16, .call ⟨.value (.func 104), #[.tmp 15], #[60]⟩, 30, "files.go:98", #[⟨3, .data⟩, ⟨2, .chain⟩], none⟩) rfl (fun K hK => ?_) AllReadyH.nil
          go_simp
          refine (HTI.out wd hHeld).mono ?_
          rintro e wd ⟨v9, rfl, O4', B2⟩
          obtain ⟨A, cp, rfl, -, -, hA⟩ := O4'.form
          rw [← HTL.out] at O4' ⊢
          have HA := Lib.hid hA
          have BW := hHeld.trans (B2.mono hHeld.size)
          try (have N4 := Lib.hid ((B2.block _ (Array.getElem?_eq_some_iff.1 N4.out).1).trans N4.out))
          try (have N5 := Lib.hid ((B2.block _ (Array.getElem?_eq_some_iff.1 N5.out).1).trans N5.out))
          try (have O4 := Lib.hid (O4.out.kept B2))
          have O4 := Lib.hid (own_le O4' hHeld.size)
          clear O4' B2 hA
          refine hK.out _ _ (BW) (fun hHeld => ?_)
          clear hK K
          try simp only [Act.put, stA, stB, stC]
          clear BW
          refine wpAnyH_ready (rs := [7]) (by kernel_rfl) (by simp) ?_
          refine AllReadyH.cons (o := ⟨none, .store 9 (.tmp 4) (.tmp 14), 0, "files.go:98", #[⟨5, .data⟩, ⟨2, .data⟩, ⟨4, .chain⟩, ⟨0, .phase⟩, ⟨1, .phase⟩, ⟨2, .phase⟩, ⟨3, .textOnly .lateStores⟩, ⟨4, .textOnly .lateStoresUnsure⟩, ⟨5, .phase⟩, ⟨6, .phase⟩], none⟩) rfl (fun K hK => ?_) AllReadyH.nil
          have hne : k5 ≠ k4 := fun e => by have a := N4.out; have b := N5.out; rw [e] at b; rw [a] at b; injection b with b; injection b with b1 b2; exact absurd b2 (by decide)
          have c4 : wd.cell? ⟨k4, 0, none⟩ = _ := cell_of_row wd k4 0 _ 9 (0, 0) N4.out
          have zf := fun i => frozen_of_row _ k4 i _ 9 N4.out
          go_simp
          have G4 := Shf.grown_set wd k4 0 (.string (str (vName no)))
          have N4' := heap_setCell_same wd k4 0 _ 9 (.string (str (vName no))) N4.out
          have N5' := (G4.block k5 (Array.getElem?_eq_some_iff.1 N5.out).1 (fun e => by injection e with e; exact hne e)).trans N5.out
          have O4' := own_grown O4.out G4 (notTy N4.out (by decide))
          have BW := Coin.below_grown hHeld G4 H4.out
          clear N4 N5 O4 c4 zf G4 hne
          have N4 := Lib.hid N4'
          have N5 := Lib.hid N5'
          have O4 := Lib.hid O4'
          clear N4' N5' O4'
          generalize wd.setCell ⟨k4, 0, none⟩ (.string (str (vName no))) = wd at *
          refine hK.out _ _ (BW) (fun hHeld => ?_)
          clear hK K
          try simp only [Act.put, stA, stB, stC]
          clear BW
          refine wpAnyH_ready (rs := [8]) (by kernel_rfl) (by simp) ?_
          refine AllReadyH.cons (o := ⟨none, .store 30 (.tmp 5) (.tmp 16), 0, "files.go:98", #[⟨6, .data⟩, ⟨4, .data⟩, ⟨7, .chain⟩, ⟨0, .phase⟩, ⟨1, .phase⟩, ⟨2, .phase⟩, ⟨3, .phase⟩, ⟨4, .phase⟩, ⟨5, .phase⟩, ⟨6, .phase⟩, ⟨7, .phase⟩], none⟩) rfl (fun K hK => ?_) AllReadyH.nil
          have hne : k4 ≠ k5 := fun e => by have a := N4.out; have b := N5.out; rw [← e] at b; rw [a] at b; injection b with b; injection b with b1 b2; exact absurd b2 (by decide)
          have c4 : wd.cell? ⟨k5, 0, none⟩ = _ := cell_of_row wd k5 0 _ 30 (0, 0) N5.out
          have zf := fun i => frozen_of_row _ k5 i _ 30 N5.out
          go_simp
          have G4 := Shf.grown_set wd k5 0 (.slice A tl cp)
          have N4' := (G4.block k4 (Array.getElem?_eq_some_iff.1 N4.out).1 (fun e => by injection e with e; exact hne e)).trans N4.out
          have N5' := heap_setCell_same wd k5 0 _ 30 (.slice A tl cp) N5.out
          have O4' := own_grown O4.out G4 (notTy N5.out (by decide))
          have BW := Coin.below_grown hHeld G4 H5.out
          clear N4 N5 O4 c4 zf G4 hne
          have N4 := Lib.hid N4'
          have N5 := Lib.hid N5'
          have O4 := Lib.hid O4'
          clear N4' N5' O4'
          generalize wd.setCell ⟨k5, 0, none⟩ (.slice A tl cp) = wd at *
          refine hK.out _ _ (BW) (fun hHeld => ?_)
          clear hK K
          try simp only [Act.put, stA, stB, stC]
          clear BW
          refine wpAnyH_done (by kernel_rfl) ?_ _
          try unfold NoPanic
          go_wp2
          go_meet
          case rel => exact ⟨k4, k5, A, cp, rfl, rfl, N4.out, N5.out, H4.out, H5.out, O4.out, HA.out, hHeld⟩
      · go_simp
        have N5' := heap_alloc_new wd (.cells #[.slice none 0 0] 30)
        have B2 : Below wd.heap.size wd (wd.alloc (.cells #[.slice none 0 0] 30)) := (Below.refl _ _).alloc (Nat.le_refl _) _
        have BW := hHeld.trans (B2.mono hHeld.size)
        try (have N4 := Lib.hid ((B2.block _ (Array.getElem?_eq_some_iff.1 N4.out).1).trans N4.out))
        try (have N5 := Lib.hid ((B2.block _ (Array.getElem?_eq_some_iff.1 N5.out).1).trans N5.out))
        try (have O4 := Lib.hid (O4.out.kept B2))
        have H5 := Lib.hid hHeld.size
        obtain ⟨k5, hk5⟩ : ∃ k, k = wd.heap.size := ⟨_, rfl⟩
        rw [← hk5] at N5' H5
        have N5 := Lib.hid N5'
        clear N5' B2
        generalize wd.alloc (.cells #[.slice none 0 0] 30) = wd at *
        simp only [← hk5]
        clear hk5
        refine hK.out _ _ (BW) (fun hHeld => ?_)
        clear hK K
        try simp only [Act.put, stA, stB, stC]
        clear BW
        refine wpAnyH_ready (rs := [2, 5]) (by kernel_rfl) (by simp) ?_
        refine (AllReadyH.cons (o := ⟨some 14, .call ⟨.value (.func 26), #[.tmp 13], #[42]⟩, 9, "files.go:98", #[⟨1, .data⟩], none⟩) rfl (fun K hK => ?_) (AllReadyH.cons (o := ⟨some 4, .alloc 9, 0, "files.go:98", #[], none⟩) rfl (fun K hK => ?_) AllReadyH.nil))
        · go_simp
          refine (name_any wd no HNO.out).mono ?_
          rintro e wx ⟨rfl, rfl⟩
          refine hK.out _ _ (hHeld) (fun hHeld => ?_)
          clear hK K
          try simp only [Act.put, stA, stB, stC]
          skip
          refine wpAnyH_ready (rs := [4, 5]) (by kernel_rfl) (by simp) ?_
          refine (AllReadyH.cons (o := ⟨some 16, .call ⟨.value (.func 104), #[.tmp 15], #[60]⟩, 30, "files.go:98", #[⟨3, .data⟩, ⟨2, .chain⟩], none⟩) rfl (fun K hK => ?_) (AllReadyH.cons (o := ⟨some 4, .alloc 9, 0, "files.go:98", #[], none⟩) rfl (fun K hK => ?_) AllReadyH.nil))
          · go_simp
            refine (HTI.out wd hHeld).mono ?_
            rintro e wd ⟨v9, rfl, O4', B2⟩
            obtain ⟨A, cp, rfl, -, -, hA⟩ := O4'.form
            rw [← HTL.out] at O4' ⊢
            have HA := Lib.hid hA
            have BW := hHeld.trans (B2.mono hHeld.size)
            try (have N4 := Lib.hid ((B2.block _ (Array.getElem?_eq_some_iff.1 N4.out).1).trans N4.out))
            try (have N5 := Lib.hid ((B2.block _ (Array.getElem?_eq_some_iff.1 N5.out).1).trans N5.out))
            try (have O4 := Lib.hid (O4.out.kept B2))
            have O4 := Lib.hid (own_le O4' hHeld.size)
            clear O4' B2 hA
            refine hK.out _ _ (BW) (fun hHeld => ?_)
            clear hK K
            try simp only [Act.put, stA, stB, stC]
            clear BW
            refine wpAnyH_ready (rs := [5]) (by kernel_rfl) (by simp) ?_
            refine AllReadyH.cons (o := ⟨some 4, .alloc 9, 0, "files.go:98", #[], none⟩) rfl (fun K hK => ?_) AllReadyH.nil
            go_simp
            have N4' := heap_alloc_new wd (.cells #[.string ⟨#[]⟩] 9)
            have B2 : Below wd.heap.size wd (wd.alloc (.cells #[.string ⟨#[]⟩] 9)) := (Below.refl _ _).alloc (Nat.le_refl _) _
            have BW := hHeld.trans (B2.mono hHeld.size)
            try (have N4 := Lib.hid ((B2.block _ (Array.getElem?_eq_some_iff.1 N4.out).1).trans N4.out))
            try (have N5 := Lib.hid ((B2.block _ (Array.getElem?_eq_some_iff.1 N5.out).1).trans N5.out))
            try (have O4 := Lib.hid (O4.out.kept B2))
            have H4 := Lib.hid hHeld.size
            obtain ⟨k4, hk5⟩ : ∃ k, k = wd.heap.size := ⟨_, rfl⟩
            rw [← hk5] at N4' H4
            have N4 := Lib.hid N4'
            clear N4' B2
            generalize wd.alloc (.cells #[.string ⟨#[]⟩] 9) = wd at *
            simp only [← hk5]
            clear hk5
            refine hK.out _ _ (BW) (fun hHeld => ?_)
            clear hK K
            try simp only [Act.put, stA, stB, stC]
            clear BW
            refine wpAnyH_ready (rs := [7]) (by kernel_rfl) (by simp) ?_
            refine AllReadyH.cons (o := ⟨none, .store 9 (.tmp 4) (.tmp 14), 0, "files.go:98", #[⟨5, .data⟩, ⟨2, .data⟩, ⟨4, .chain⟩, ⟨0, .phase⟩, ⟨1, .phase⟩, ⟨2, .phase⟩, ⟨3, .textOnly .lateStores⟩, ⟨4, .textOnly .lateStoresUnsure⟩, ⟨5, .phase⟩, ⟨6, .phase⟩], none⟩) rfl (fun K hK => ?_) AllReadyH.nil
            have hne : k5 ≠ k4 := fun e => by have a := N4.out; have b := N5.out; rw [e] at b; rw [a] at b; injection b with b; injection b with b1 b2; exact absurd b2 (by decide)
            have c4 : wd.cell? ⟨k4, 0, none⟩ = _ := cell_of_row wd k4 0 _ 9 (0, 0) N4.out
            have zf := fun i => frozen_of_row _ k4 i _ 9 N4.out
            go_simp
            have G4 := Shf.grown_set wd k4 0 (.string (str (vName no)))
            have N4' := heap_setCell_same wd k4 0 _ 9 (.string (str (vName no))) N4.out
            have N5' := (G4.block k5 (Array.getElem?_eq_some_iff.1 N5.out).1 (fun e => by injection e with e; exact hne e)).trans N5.out
            have O4' := own_grown O4.out G4 (notTy N4.out (by decide))
            have BW := Coin.below_grown hHeld G4 H4.out
            clear N4 N5 O4 c4 zf G4 hne
            have N4 := Lib.hid N4'
            have N5 := Lib.hid N5'
            have O4 := Lib.hid O4'
            clear N4' N5' O4'
            generalize wd.setCell ⟨k4, 0, none⟩ (.string (str (vName no))) = wd at *
            refine hK.out _ _ (BW) (fun hHeld => ?_)
            clear hK K
            try simp only [Act.put, stA, stB, stC]
            clear BW
            refine wpAnyH_ready (rs := [8]) (by kernel_rfl) (by simp) ?_
            refine AllReadyH.cons (o := ⟨none, .store 30 (.tmp 5) (.tmp 16), 0, "files.go:98", #[⟨6, .data⟩, ⟨4, .data⟩, ⟨7, .chain⟩, ⟨0, .phase⟩, ⟨1, .phase⟩, ⟨2, .phase⟩, ⟨3, .phase⟩, ⟨4, .phase⟩, ⟨5, .phase⟩, ⟨6, .phase⟩, ⟨7, .phase⟩], none⟩) rfl (fun K hK => ?_) AllReadyH.nil
            have hne : k4 ≠ k5 := fun e => by have a := N4.out; have b := N5.out; rw [← e] at b; rw [a] at b; injection b with b; injection b with b1 b2; exact absurd b2 (by decide)
            have c4 : wd.cell? ⟨k5, 0, none⟩ = _ := cell_of_row wd k5 0 _ 30 (0, 0) N5.out
            have zf := fun i => frozen_of_row _ k5 i _ 30 N5.out
            go_simp
            have G4 := Shf.grown_set wd k5 0 (.slice A tl cp)
            have N4' := (G4.block k4 (Array.getElem?_eq_some_iff.1 N4.out).1 (fun e => by injection e with e; exact hne e)).trans N4.out
            have N5' := heap_setCell_same wd k5 0 _ 30 (.slice A tl cp) N5.out
            have O4' := own_grown O4.out G4 (notTy N5.out (by decide))
            have BW := Coin.below_grown hHeld G4 H5.out
            clear N4 N5 O4 c4 zf G4 hne
            have N4 := Lib.hid N4'
            have N5 := Lib.hid N5'
            have O4 := Lib.hid O4'
            clear N4' N5' O4'
            generalize wd.setCell ⟨k5, 0, none⟩ (.slice A tl cp) = wd at *
            refine hK.out _ _ (BW) (fun hHeld => ?_)
            clear hK K
            try simp only [Act.put, stA, stB, stC]
            clear BW
            refine wpAnyH_done (by kernel_rfl) ?_ _
            try unfold NoPanic
            go_wp2
            go_meet
            case rel => exact ⟨k4, k5, A, cp, rfl, rfl, N4.out, N5.out, H4.out, H5.out, O4.out, HA.out, hHeld⟩
          · go_simp
            have N4' := heap_alloc_new wd (.cells #[.string ⟨#[]⟩] 9)
            have B2 : Below wd.heap.size wd (wd.alloc (.cells #[.string ⟨#[]⟩] 9)) := (Below.refl _ _).alloc (Nat.le_refl _) _
            have BW := hHeld.trans (B2.mono hHeld.size)
            try (have N4 := Lib.hid ((B2.block _ (Array.getElem?_eq_some_iff.1 N4.out).1).trans N4.out))
            try (have N5 := Lib.hid ((B2.block _ (Array.getElem?_eq_some_iff.1 N5.out).1).trans N5.out))
            try (have O4 := Lib.hid (O4.out.kept B2))
            have H4 := Lib.hid hHeld.size
            obtain ⟨k4, hk5⟩ : ∃ k, k = wd.heap.size := ⟨_, rfl⟩
            rw [← hk5] at N4' H4
            have N4 := Lib.hid N4'
            clear N4' B2
            generalize wd.alloc (.cells #[.string ⟨#[]⟩] 9) = wd at *
            simp only [← hk5]
            clear hk5
            refine hK.out _ _ (BW) (fun hHeld => ?_)
            clear hK K
            try simp only [Act.put, stA, stB, stC]
            clear BW
            refine wpAnyH_ready (rs := [4]) (by kernel_rfl) (by simp) ?_
            refine AllReadyH.cons (o := ⟨some 16, .call ⟨.value (.func 104), #[.tmp 15], #[60]⟩, 30, "files.go:98", #[⟨3, .data⟩, ⟨2, .chain⟩], none⟩) rfl (fun K hK => ?_) AllReadyH.nil
            go_simp
            refine (HTI.out wd hHeld).mono ?_
            rintro e wd ⟨v9, rfl, O4', B2⟩
            obtain ⟨A, cp, rfl, -, -, hA⟩ := O4'.form
            rw [← HTL.out] at O4' ⊢
            have HA := Lib.hid hA
            have BW := hHeld.trans (B2.mono hHeld.size)
            try (have N4 := Lib.hid ((B2.block _ (Array.getElem?_eq_some_iff.1 N4.out).1).trans N4.out))
            try (have N5 := Lib.hid ((B2.block _ (Array.getElem?_eq_some_iff.1 N5.out).1).trans N5.out))
            try (have O4 := Lib.hid (O4.out.kept B2))
            have O4 := Lib.hid (own_le O4' hHeld.size)
            clear O4' B2 hA
            refine hK.out _ _ (BW) (fun hHeld => ?_)
            clear hK K
            try simp only [Act.put, stA, stB, stC]
            clear BW
            refine wpAnyH_ready (rs := [7]) (by kernel_rfl) (by simp) ?_
            refine AllReadyH.cons (o := ⟨none, .store 9 (.tmp 4) (.tmp 14), 0, "files.go:98", #[⟨5, .data⟩, ⟨2, .data⟩, ⟨4, .chain⟩, ⟨0, .phase⟩, ⟨1, .phase⟩, ⟨2, .phase⟩, ⟨3, .textOnly .lateStores⟩, ⟨4, .textOnly .lateStoresUnsure⟩, ⟨5, .phase⟩, ⟨6, .phase⟩], none⟩) rfl (fun K hK => ?_) AllReadyH.nil
            have hne : k5 ≠ k4 := fun e => by have a := N4.out; have b := N5.out; rw [e] at b; rw [a] at b; injection b with b; injection b with b1 b2; exact absurd b2 (by decide)
            have c4 : wd.cell? ⟨k4, 0, none⟩ = _ := cell_of_row wd k4 0 _ 9 (0, 0) N4.out
            have zf := fun i => frozen_of_row _ k4 i _ 9 N4.out
            go_simp
            have G4 := Shf.grown_set wd k4 0 (.string (str (vName no)))
            have N4' := heap_setCell_same wd k4 0 _ 9 (.string (str (vName no))) N4.out
            have N5' := (G4.block k5 (Array.getElem?_eq_some_iff.1 N5.out).1 (fun e => by injection e with e; exact hne e)).trans N5.out
            have O4' := own_grown O4.out G4 (notTy N4.out (by decide))
            have BW := Coin.below_grown hHeld G4 H4.out
            clear N4 N5 O4 c4 zf G4 hne
            have N4 := Lib.hid N4'
            have N5 := Lib.hid N5'
            have O4 := Lib.hid O4'
            clear N4' N5' O4'
            generalize wd.setCell ⟨k4, 0, none⟩ (.string (str (vName no))) = wd at *
            refine hK.out _ _ (BW) (fun hHeld => ?_)
            clear hK K
            try simp only [Act.put, stA, stB, stC]
            clear BW
            refine wpAnyH_ready (rs := [8]) (by kernel_rfl) (by simp) ?_
            refine AllReadyH.cons (o := ⟨none, .store 30 (.tmp 5) (.tmp 16), 0, "files.go:98", #[⟨6, .data⟩, ⟨4, .data⟩, ⟨7, .chain⟩, ⟨0, .phase⟩, ⟨1, .phase⟩, ⟨2, .phase⟩, ⟨3, .phase⟩, ⟨4, .phase⟩, ⟨5, .phase⟩, ⟨6, .phase⟩, ⟨7, .phase⟩], none⟩) rfl (fun K hK => ?_) AllReadyH.nil
            have hne : k4 ≠ k5 := fun e => by have a := N4.out; have b := N5.out; rw [← e] at b; rw [a] at b; injection b with b; injection b with b1 b2; exact absurd b2 (by decide)
            have c4 : wd.cell? ⟨k5, 0, none⟩ = _ := cell_of_row wd k5 0 _ 30 (0, 0) N5.out
            have zf := fun i => frozen_of_row _ k5 i _ 30 N5.out
            go_simp
            have G4 := Shf.grown_set wd k5 0 (.slice A tl cp)
            have N4' := (G4.block k4 (Array.getElem?_eq_some_iff.1 N4.out).1 (fun e => by injection e with e; exact hne e)).trans N4.out
            have N5' := heap_setCell_same wd k5 0 _ 30 (.slice A tl cp) N5.out
            have O4' := own_grown O4.out G4 (notTy N5.out (by decide))
            have BW := Coin.below_grown hHeld G4 H5.out
            clear N4 N5 O4 c4 zf G4 hne
            have N4 := Lib.hid N4'
            have N5 := Lib.hid N5'
            have O4 := Lib.hid O4'
            clear N4' N5' O4'
            generalize wd.setCell ⟨k5, 0, none⟩ (.slice A tl cp) = wd at *
            refine hK.out _ _ (BW) (fun hHeld => ?_)
            clear hK K
            try simp only [Act.put, stA, stB, stC]
            clear BW
            refine wpAnyH_done (by kernel_rfl) ?_ _
            try unfold NoPanic
            go_wp2
            go_meet
            case rel => exact ⟨k4, k5, A, cp, rfl, rfl, N4.out, N5.out, H4.out, H5.out, O4.out, HA.out, hHeld⟩
        · go_simp
          have N4' := heap_alloc_new wd (.cells #[.string ⟨#[]⟩] 9)
          have B2 : Below wd.heap.size wd (wd.alloc (.cells #[.string ⟨#[]⟩] 9)) := (Below.refl _ _).alloc (Nat.le_refl _) _
          have BW := hHeld.trans (B2.mono hHeld.size)
          try (have N4 := Lib.hid ((B2.block _ (Array.getElem?_eq_some_iff.1 N4.out).1).trans N4.out))
          try (have N5 := Lib.hid ((B2.block _ (Array.getElem?_eq_some_iff.1 N5.out).1).trans N5.out))
          try (have O4 := Lib.hid (O4.out.kept B2))
          have H4 := Lib.hid hHeld.size
          obtain ⟨k4, hk5⟩ : ∃ k, k = wd.heap.size := ⟨_, rfl⟩
          rw [← hk5] at N4' H4
          have N4 := Lib.hid N4'
          clear N4' B2
          generalize wd.alloc (.cells #[.string ⟨#[]⟩] 9) = wd at *
          simp only [← hk5]
          clear hk5
          refine hK.out _ _ (BW) (fun hHeld => ?_)
          clear hK K
          try simp only [Act.put, stA, stB, stC]
          clear BW
          refine wpAnyH_ready (rs := [2]) (by kernel_rfl) (by simp) ?_
          refine AllReadyH.cons (o := ⟨some 14, .call ⟨.value (.func 26), #[.tmp 13], #[42]⟩, 9, "files.go:98", #[⟨1, .data⟩], none⟩) rfl (fun K hK => ?_) AllReadyH.nil
          go_simp
          refine (name_any wd no HNO.out).mono ?_
          rintro e wx ⟨rfl, rfl⟩
          refine hK.out _ _ (hHeld) (fun hHeld => ?_)
          clear hK K
          try simp only [Act.put, stA, stB, stC]
          skip
          refine wpAnyH_ready (rs := [4]) (by kernel_rfl) (by simp) ?_
          refine AllReadyH.cons (o := ⟨some 16, .call ⟨.value (.func 104), #[.tmp 15], #[60]⟩, 30, "files.go:98", #[⟨3, .data⟩, ⟨2, .chain⟩], none⟩) rfl (fun K hK => ?_) AllReadyH.nil
          go_simp
          refine (HTI.out wd hHeld).mono ?_
          rintro e wd ⟨v9, rfl, O4', B2⟩
          obtain ⟨A, cp, rfl, -, -, hA⟩ := O4'.form
          rw [← HTL.out] at O4' ⊢
          have HA := Lib.hid hA
          have BW := hHeld.trans (B2.mono hHeld.size)
          try (have N4 := Lib.hid ((B2.block _ (Array.getElem?_eq_some_iff.1 N4.out).1).trans N4.out))
          try (have N5 := Lib.hid ((B2.block _ (Array.getElem?_eq_some_iff.1 N5.out).1).trans N5.out))
          try (have O4 := Lib.hid (O4.out.kept B2))
          have O4 := Lib.hid (own_le O4' hHeld.size)
          clear O4' B2 hA
          refine hK.out _ _ (BW) (fun hHeld => ?_)
          clear hK K
          try simp only [Act.put, stA, stB, stC]
          clear BW
          refine wpAnyH_ready (rs := [7]) (by kernel_rfl) (by simp) ?_
          refine AllReadyH.cons (o := ⟨none, .store 9 (.tmp 4) (.tmp 14), 0, "files.go:98", #[⟨5, .data⟩, ⟨2, .data⟩, ⟨4, .chain⟩, ⟨0, .phase⟩, ⟨1, .phase⟩, ⟨2, .phase⟩, ⟨3, .textOnly .lateStores⟩, ⟨4, .textOnly .lateStoresUnsure⟩, ⟨5, .phase⟩, ⟨6, .phase⟩], none⟩) rfl (fun K hK => ?_) AllReadyH.nil
          have hne : k5 ≠ k4 := fun e => by have a := N4.out; have b := N5.out; rw [e] at b; rw [a] at b; injection b with b; injection b with b1 b2; exact absurd b2 (by decide)
          have c4 : wd.cell? ⟨k4, 0, none⟩ = _ := cell_of_row wd k4 0 _ 9 (0, 0) N4.out
          have zf := fun i => frozen_of_row _ k4 i _ 9 N4.out
          go_simp
          have G4 := Shf.grown_set wd k4 0 (.string (str (vName no)))
          have N4' := heap_setCell_same wd k4 0 _ 9 (.string (str (vName no))) N4.out
          have N5' := (G4.block k5 (Array.getElem?_eq_some_iff.1 N5.out).1 (fun e => by injection e with e; exact hne e)).trans N5.out
          have O4' := own_grown O4.out G4 (notTy N4.out (by decide))
          have BW := Coin.below_grown hHeld G4 H4.out
          clear N4 N5 O4 c4 zf G4 hne
          have N4 := Lib.hid N4'
          have N5 := Lib.hid N5'
          have O4 := Lib.hid O4'
          clear N4' N5' O4'
          generalize wd.setCell ⟨k4, 0, none⟩ (.string (str (vName no))) = wd at *
          refine hK.out _ _ (BW) (fun hHeld => ?_)
          clear hK K
          try simp only [Act.put, stA, stB, stC]
          clear BW
          refine wpAnyH_ready (rs := [8]) (by kernel_rfl) (by simp) ?_
          refine AllReadyH.cons (o := ⟨none, .store 30 (.tmp 5) (.tmp 16), 0, "files.go:98", #[⟨6, .data⟩, ⟨4, .data⟩, ⟨7, .chain⟩, ⟨0, .phase⟩, ⟨1, .phase⟩, ⟨2, .phase⟩, ⟨3, .phase⟩, ⟨4, .phase⟩, ⟨5, .phase⟩, ⟨6, .phase⟩, ⟨7, .phase⟩], none⟩) rfl (fun K hK => ?_) AllReadyH.nil
          have hne : k4 ≠ k5 := fun e => by have a := N4.out; have b := N5.out; rw [← e] at b; rw [a] at b; injection b with b; injection b with b1 b2; exact absurd b2 (by decide)
          have c4 : wd.cell? ⟨k5, 0, none⟩ = _ := cell_of_row wd k5 0 _ 30 (0, 0) N5.out
          have zf := fun i => frozen_of_row _ k5 i _ 30 N5.out
          go_simp
          have G4 := Shf.grown_set wd k5 0 (.slice A tl cp)
          have N4' := (G4.block k4 (Array.getElem?_eq_some_iff.1 N4.out).1 (fun e => by injection e with e; exact hne e)).trans N4.out
          have N5' := heap_setCell_same wd k5 0 _ 30 (.slice A tl cp) N5.out
          have O4' := own_grown O4.out G4 (notTy N5.out (by decide))
          have BW := Coin.below_grown hHeld G4 H5.out
          clear N4 N5 O4 c4 zf G4 hne
          have N4 := Lib.hid N4'
          have N5 := Lib.hid N5'
          have O4 := Lib.hid O4'
          clear N4' N5' O4'
          generalize wd.setCell ⟨k5, 0, none⟩ (.slice A tl cp) = wd at *
          refine hK.out _ _ (BW) (fun hHeld => ?_)
          clear hK K
          try simp only [Act.put, stA, stB, stC]
          clear BW
          refine wpAnyH_done (by kernel_rfl) ?_ _
          try unfold NoPanic
          go_wp2
          go_meet
          case rel => exact ⟨k4, k5, A, cp, rfl, rfl, N4.out, N5.out, H4.out, H5.out, O4.out, HA.out, hHeld⟩
    case rest =>
      obtain ⟨a, b, A, cp, rfl, rfl, HW⟩ := hcut
      generalize wc = wx at *
      have BX := HW.out.2.2.2.2.2.2
      have rk := (BX.block k (Array.getElem?_eq_some_iff.1 HV.out.1).1).trans HV.out.1
      obtain ⟨k0, k1, k2, k3, -⟩ := Frm.cells4 rk
      have kz := fun i => frozen_of_row wx k i _ 60 rk
      have kb : wx.cell? ⟨b, 0, none⟩ = _ := cell_of_row wx b 0 _ 30 (0, 0) HW.out.2.1
      have rk' := heap_setCell_same wx k 3 _ 60 (.int .i64 (tl : Int)) rk
      have G := Shf.grown_set wx k 3 (.int .i64 (tl : Int))
      have ra := row_grown HW.out.1 G (notTy rk (by decide))
      have rb := row_grown HW.out.2.1 G (notTy rk (by decide))
      have O9 := own_grown HW.out.2.2.2.2.1 G (notTy rk (by decide))
      have B19 : Below w1.heap.size w1 _ := Coin.below_grown (HV.out.2.2.trans (BX.mono HV.out.2.2.size)) G HV.out.2.1
      have HY := Lib.hid (And.intro rk' (And.intro ra (And.intro rb (And.intro O9 B19))))
      clear rk' G ra rb O9 B19 BX
      have HRK := Lib.hid rk
      clear rk
      go_upto_region 4 with (fail)
      generalize wx.setCell ⟨k, 3, none⟩ (.int .i64 (tl : Int)) = wy at *
      clear k0 k1 k2 k3 kz kb
      have HYA := HY.out
      have BY : Below w.heap.size w wy := HR.out.2.2.1.trans (HYA.2.2.2.2.mono HR.out.2.2.1.size)
      have tn : ∀ b, w.heap.size ≤ b → T b = .none := fun b hb => rep_old HR.out.1 hb
      have s1 := HR.out.2.2.1.size
      have sv := HV.out.2.2.size
      have kx : wy.cell? ⟨xc, 0, none⟩ = some (.pointer (some ⟨p, 0, none⟩)) := (World.cell?_of_block (a := ⟨xc, 0, none⟩) (HYA.2.2.2.2.block xc HXC.out.2)).trans HXC.out.1
      have ka : wy.cell? ⟨a, 0, none⟩ = _ := cell_of_row wy a 0 _ 9 (0, 0) HYA.2.1
      have kb : wy.cell? ⟨b, 0, none⟩ = _ := cell_of_row wy b 0 _ 30 (0, 0) HYA.2.2.1
      have hp : wy.cell? ⟨p, 0, none⟩ = some (.pointer (some ⟨q, 0, none⟩)) ∧ T p = .none := by
        obtain ⟨bA, bc, vv, gv, h⟩ := HR.out.2.1
        exact ⟨(World.cell?_of_block (a := ⟨p, 0, none⟩) (BY.block p (Array.getElem?_eq_some_iff.1 h.row).1)).trans (row8 h.row).1, h.tp⟩
      have B4 : Below wy.heap.size wy (wy.alloc (.cells #[.func (.func 105) #[] #[.pointer (some ⟨xc, 0, none⟩), .pointer (some ⟨a, 0, none⟩)], .func (.func 106) #[] #[.pointer (some ⟨xc, 0, none⟩), .pointer (some ⟨a, 0, none⟩), .pointer (some ⟨b, 0, none⟩)], .func (.func 107) #[] #[.pointer (some ⟨xc, 0, none⟩), .pointer (some ⟨a, 0, none⟩)], .func (.func 15) #[.pointer (some ⟨q, 0, none⟩)] #[]] 39)) := (Below.refl _ _).alloc (Nat.le_refl _) _
      have BY4 := BY.trans (B4.mono BY.size)
      have kk : ∀ c v, wy.cell? c = some v → (wy.alloc (.cells #[.func (.func 105) #[] #[.pointer (some ⟨xc, 0, none⟩), .pointer (some ⟨a, 0, none⟩)], .func (.func 106) #[] #[.pointer (some ⟨xc, 0, none⟩), .pointer (some ⟨a, 0, none⟩), .pointer (some ⟨b, 0, none⟩)], .func (.func 107) #[] #[.pointer (some ⟨xc, 0, none⟩), .pointer (some ⟨a, 0, none⟩)], .func (.func 15) #[.pointer (some ⟨q, 0, none⟩)] #[]] 39)).cell? c = some v := fun c v e => (World.cell?_of_block (B4.block c.block (block_lt_of_cell e))).trans e
      have la := HW.out.2.2.1
      have lb := HW.out.2.2.2.1
      have c41 := io_begin (wy.alloc (.cells #[.func (.func 105) #[] #[.pointer (some ⟨xc, 0, none⟩), .pointer (some ⟨a, 0, none⟩)], .func (.func 106) #[] #[.pointer (some ⟨xc, 0, none⟩), .pointer (some ⟨a, 0, none⟩), .pointer (some ⟨b, 0, none⟩)], .func (.func 107) #[] #[.pointer (some ⟨xc, 0, none⟩), .pointer (some ⟨a, 0, none⟩)], .func (.func 15) #[.pointer (some ⟨q, 0, none⟩)] #[]] 39)) T q m p xc (HR.out.1.below BY4) (by have := HQ.out.2.2.2.1; omega) (kk _ _ kx) (tn xc (by rw [HXW.out]; exact Nat.le_refl _)) (kk _ _ hp.1) hp.2 a (vName no) (vName_le _ HNO.out) (kk _ _ ka) (tn a (by omega)) b A cp tl (titleB no nx) HTL.out (rdn_own (HYA.2.2.2.1.kept B4) (fun b hb => tn b (by omega))) HW.out.2.2.2.2.2.1 (by have := titleB_len no nx; omega) HR.out.2.2.2.2.1 (kk _ _ kb) (tn b (by omega)) wy.heap.size (heap_alloc_new _ _) (tn _ BY.size)
      have kp := hp.1
      have HB4 := Lib.hid (And.intro BY4 (And.intro B4 hp.2))
      have HKX := Lib.hid kx
      clear HYA BY tn s1 sv ka kb hp B4 BY4 kk la lb
      go_upto_region 5 with (go_at_call 41; (refine c41.mono ?_); rintro e w5 ⟨en, m1, T5, rfl, hres, R5, X5⟩; have H5 := Lib.hid (And.intro hres (And.intro R5 X5)); clear hres R5 X5 c41)
      obtain ⟨d5, r5, n5⟩ := bres_small H5.out.1 (vName_le _ HNO.out) HQ.out.2.2.2.2
      have l5 := nms_list n5
      have X5 := (ext_below HB4.out.1 T).trans H5.out.2.2
      have hKc : w5.cell? ⟨xc, 0, none⟩ = some (.pointer (some ⟨p, 0, none⟩)) := by
        have lx := HB4.out.2.1.size
        have ly : xc < wy.heap.size := block_lt_of_cell (a := ⟨xc, 0, none⟩) HKX.out
        have e := World.cell?_of_block (a := ⟨xc, 0, none⟩) (H5.out.2.2.block xc (by show xc < _; omega) (rep_old HR.out.1 (by rw [HXW.out]; exact Nat.le_refl _)))
        exact e.trans ((World.cell?_of_block (a := ⟨xc, 0, none⟩) (HB4.out.2.1.block xc ly)).trans HKX.out)
      have c80 := undo_any w5 T5 p q m1 c en H5.out.2.1 (HR.out.2.1.keep (kp_ext X5)) HQ.out.1 HQ.out.2.1 HQ.out.2.2.1 (by have := HQ.out.2.2.2.1; omega) (by omega) l5.2
      have HX5 := Lib.hid X5
      clear d5 r5 n5 l5 X5 kx kp
      by_cases h0 : en = 0
      · have h0' : (en : Int) = 0 := by omega
        have HC0 := Lib.hid h0
        clear h0 c80
        obtain ⟨bA, bc, vv, gv, h⟩ := HR.out.2.1
        obtain ⟨A2, cap2, rfl⟩ := h.nil
        have h5 := h.keep (kp_ext HX5.out)
        obtain ⟨n2, hn2⟩ : ∃ n, n = c.vols.length := ⟨_, rfl⟩
        have hn6 := HQ.out.1.n
        have HC5 := Lib.hid (And.intro h5 (fun b (hb : w5.heap.size ≤ b) => rep_old H5.out.2.1 hb))
        rw [← hn2] at HC5
        have hgv : ∀ g, gv = some g → g < w.heap.size := fun g e => by
          obtain ⟨vs, _, h2, _⟩ := h.vs
          exact (h2.lt g e).1
        have sz1 := HR.out.2.2.1.size
        have sz2 := HB4.out.1.size
        have hk1 := HV.out.2.1
        have hk0 : w.heap.size ≤ k := by omega
        have hxw := HXW.out
        have HGV : Hid (gv ≠ some xc ∧ gv ≠ some k) := ⟨fun e => by have := hgv _ e; omega, fun e => by have := hgv _ e; omega⟩
        have lk : k < wy.heap.size := (Array.getElem?_eq_some_iff.1 HY.out.1).1
        have l4 := HB4.out.2.1.size
        have hrk5 := (H5.out.2.2.block k (by omega) (rep_old HR.out.1 hk0)).trans ((HB4.out.2.1.block k lk).trans HY.out.1)
        have HRK5 : Hid (w5.heap[k]? = some (.cells #[.int .u64 (no : Int), .int .u64 (nx : Int), .slice none 0 0, .int .i64 (tl : Int)] 60 (0, 0))) := hrk5
        have HKC := Lib.hid hKc
        have lp : p < w.heap.size := (Array.getElem?_eq_some_iff.1 h.row).1
        have HLX : Hid (xc < w5.heap.size ∧ k < w5.heap.size ∧ xc ≠ p ∧ k ≠ p) := ⟨block_lt_of_cell (a := ⟨xc, 0, none⟩) hKc, (Array.getElem?_eq_some_iff.1 hrk5).1, by omega, by omega⟩
        have HP6 : Hid (∀ y, Below w5.heap.size w5 y → y.cell? ⟨p, 6, none⟩ = some (.slice A2 n2 cap2)) := fun y hy => by
          rw [hn2]
          exact (row8 ((hy.block p (Array.getElem?_eq_some_iff.1 h5.row).1).trans h5.row)).2.2.2.2.2.2.1
        have HBW := Lib.hid ((Below.refl w5.heap.size w5).drew)
        have HEND : Hid (∀ w8, CAt lo w8 T5 p q {c with vols := c.vols ++ [⟨no, nx, [], tl⟩]} → Kq lo w5 T5 w8 T5 → Rep w8 T5 q m1 → ∃ en m' c' T', Ending.returned (.int .i64 0) = .returned (.int .i64 ((en : Nat) : Int)) ∧ BgM c m en m' c' ∧ Rep w8 T' q m' ∧ CAt lo w8 T' p q c' ∧ Kq lo w T w8 T') := fun w8 C K R8 => by
          have hres := H5.out.1
          rw [HNN.out.1, HNN.out.2] at hres
          rw [HTL.out, HNN.out.1, HNN.out.2] at C
          exact ⟨0, m1, _, T5, rfl, ⟨en, m1, ⟨hres, rep_good R8⟩, Or.inl ⟨HC0.out, rfl, rfl, rfl⟩⟩, R8, C, (kq_kp (kp_ext HX5.out)).trans K⟩
        clear h h5 hn2 hn6 hgv sz1 sz2 hk1 hk0 hxw lk l4 hrk5 lp hKc
        go_upto_region 7 with (fail)
        refine wp_region_noPanic ?_
        refine wp_region_held_drew (S := fun y : World => y.heap[xc]? = w5.heap[xc]? ∧ y.heap[k]? = w5.heap[k]?) (by kernel_rfl) ⟨rfl, rfl⟩ (fun hHeld => ?_)
        generalize w5.drew = wd at *
        refine wpAnyH_take (i := 0) (oi := ⟨some 35, .load 26 (.tmp 1), 26, "files.go:109", #[], none⟩) (v := .pointer (some ⟨p, 0, none⟩)) rfl (by kernel_rfl) (by kernel_rfl) (by kernel_rfl) (fun _ _ _ h => h) (Or.inl ⟨by rfl, fun w hSw => by have kx := (World.cell?_of_block (a := ⟨xc, 0, none⟩) hSw.1).trans HKC.out; go_simp⟩) (by assumption) ?_
        try simp only [Act.put, stA, stB, stC]
        refine wpAnyH_take (i := 1) (oi := ⟨some 36, .load 26 (.tmp 1), 26, "files.go:109", #[], none⟩) (v := .pointer (some ⟨p, 0, none⟩)) rfl (by kernel_rfl) (by kernel_rfl) (by kernel_rfl) (fun _ _ _ h => h) (Or.inl ⟨by rfl, fun w hSw => by have kx := (World.cell?_of_block (a := ⟨xc, 0, none⟩) hSw.1).trans HKC.out; go_simp⟩) (by assumption) ?_
        try simp only [Act.put, stA, stB, stC]
        refine wpAnyH_take (i := 2) (oi := ⟨some 37, .nilCheck (.tmp 36), 0, "files.go:109", #[⟨1, .data⟩], none⟩) (v := .pointer (some ⟨p, 0, none⟩)) rfl (by kernel_rfl) (by kernel_rfl) (by kernel_rfl) (fun _ _ _ h => h) (Or.inl ⟨by rfl, fun w hSw => by go_simp⟩) (by assumption) ?_
        try simp only [Act.put, stA, stB, stC]
        refine wpAnyH_take (i := 3) (oi := ⟨some 38, .fieldAddr 82 (.tmp 37) 4, 0, "files.go:109", #[⟨2, .data⟩], none⟩) (v := .pointer (some ⟨p, 6, none⟩)) rfl (by kernel_rfl) (by kernel_rfl) (by kernel_rfl) (fun _ _ _ h => h) (Or.inl ⟨by rfl, fun w hSw => by go_simp⟩) (by assumption) ?_
        try simp only [Act.put, stA, stB, stC]
        refine wpAnyH_take (i := 5) (oi := ⟨some 40, .load 60 (.tmp 3), 60, "files.go:109", #[], none⟩) (v := .agg #[.int .u64 (no : Int), .int .u64 (nx : Int), .slice none 0 0, .int .i64 (tl : Int)]) rfl (by kernel_rfl) (by kernel_rfl) (by kernel_rfl) (fun _ _ _ h => h) (Or.inl ⟨by rfl, fun w hSw => by obtain ⟨p0, p1, p2, p3, -⟩ := Frm.cells4 (hSw.2.trans HRK5.out); go_simp⟩) (by assumption) ?_
        try simp only [Act.put, stA, stB, stC]
        refine wpAnyH_ready (rs := [4, 6]) (by kernel_rfl) (by simp) ?_
        refine (AllReadyH.cons (o := ⟨some 39, .load 53 (.tmp 38), 53, "files.go:109", #[⟨3, .data⟩], none⟩) rfl (fun K hK => ?_) (AllReadyH.cons (o := ⟨some 41, .buildSlice 53 1 #[(0, .tmp 40)], 53, "files.go:109", #[⟨5, .data⟩], none⟩) rfl (fun K hK => ?_) AllReadyH.nil))
        · have y6 := HP6.out wd HBW.out
          go_simp
          clear y6
          refine hK.out _ _ (hHeld) (fun hHeld => ?_)
          clear hK K
          try simp only [Act.put, stA, stB, stC]
          skip
          refine wpAnyH_ready (rs := [6]) (by kernel_rfl) (by simp) ?_
          refine AllReadyH.cons (o := ⟨some 41, .buildSlice 53 1 #[(0, .tmp 40)], 53, "files.go:109", #[⟨5, .data⟩], none⟩) rfl (fun K hK => ?_) AllReadyH.nil
          go_simp
          have N6' := heap_alloc_new wd (.cells #[.int .u64 (no : Int), .int .u64 (nx : Int), .slice none 0 0, .int .i64 (tl : Int)] 60)
          have BW := HBW.out.alloc HBW.out.size (.cells #[.int .u64 (no : Int), .int .u64 (nx : Int), .slice none 0 0, .int .i64 (tl : Int)] 60)
          obtain ⟨k6, hk6⟩ : ∃ k, k = wd.heap.size := ⟨_, rfl⟩
          rw [← hk6] at N6'
          have N6 := Lib.hid N6'
          clear N6' HBW
          have HBW := Lib.hid BW
          generalize wd.alloc (.cells #[.int .u64 (no : Int), .int .u64 (nx : Int), .slice none 0 0, .int .i64 (tl : Int)] 60) = wd at *
          simp only [← hk6]
          clear hk6
          refine hK.out _ _ (⟨BW.block xc HLX.out.1, BW.block k HLX.out.2.1⟩) (fun hHeld => ?_)
          clear hK K
          try simp only [Act.put, stA, stB, stC]
          clear BW
          refine wpAnyH_ready (rs := [7]) (by kernel_rfl) (by simp) ?_
          refine AllReadyH.cons (o := ⟨some 42, .call ⟨.builtin .append, #[.tmp 39, .tmp 41], #[53, 53]⟩, 53, "files.go:109", #[⟨4, .data⟩, ⟨6, .data⟩], none⟩) rfl (fun K hK => ?_) AllReadyH.nil
          obtain ⟨v7, w7, hrun, ⟨A7, n7, c7, rfl⟩, hb7, ⟨u7, y7⟩, z7, C7, K7, R7⟩ := begin_end HC5.out.1 HBW.out no nx tl k6 N6.out HC5.out.2 HQ.out.1.n
          refine Lib.wp_append_run _ (.tmp 39) (.tmp 41) 53 53 rfl _ _ rfl rfl _ _ hrun ?_
          have H7 := Lib.hid (And.intro C7 (And.intro K7 (R7 m1 H5.out.2.1)))
          have BW := And.intro (hb7 xc HLX.out.1 HGV.out.1) (hb7 k HLX.out.2.1 HGV.out.2)
          clear hb7 C7 K7 R7 hrun HBW
          refine hK.out _ _ (BW) (fun hHeld => ?_)
          clear hK K
          try simp only [Act.put, stA, stB, stC]
          clear BW
          refine wpAnyH_take (i := 8) (oi := ⟨some 43, .nilCheck (.tmp 35), 0, "files.go:109", #[⟨0, .data⟩, ⟨0, .phase⟩, ⟨1, .phase⟩, ⟨2, .phase⟩, ⟨3, .phase⟩, ⟨4, .phase⟩, ⟨5, .phase⟩, ⟨6, .phase⟩, ⟨7, .phase⟩], none⟩) (v := .pointer (some ⟨p, 0, none⟩)) rfl (by kernel_rfl) (by kernel_rfl) (by kernel_rfl) (fun _ _ _ h => h) (Or.inl ⟨by rfl, fun w hSw => by go_simp⟩) (by assumption) ?_
          try simp only [Act.put, stA, stB, stC]
          refine wpAnyH_take (i := 9) (oi := ⟨some 44, .fieldAddr 82 (.tmp 43) 4, 0, "files.go:109", #[⟨8, .data⟩, ⟨0, .phase⟩, ⟨1, .phase⟩, ⟨2, .phase⟩, ⟨3, .phase⟩, ⟨4, .phase⟩, ⟨5, .phase⟩, ⟨6, .phase⟩, ⟨7, .phase⟩], none⟩) (v := .pointer (some ⟨p, 6, none⟩)) rfl (by kernel_rfl) (by kernel_rfl) (by kernel_rfl) (fun _ _ _ h => h) (Or.inl ⟨by rfl, fun w hSw => by go_simp⟩) (by assumption) ?_
          try simp only [Act.put, stA, stB, stC]
          refine wpAnyH_ready (rs := [10]) (by kernel_rfl) (by simp) ?_
          refine AllReadyH.cons (o := ⟨none, .store 53 (.tmp 44) (.tmp 42), 0, "files.go:109", #[⟨9, .data⟩, ⟨7, .data⟩, ⟨7, .chain⟩, ⟨0, .phase⟩, ⟨1, .phase⟩, ⟨2, .phase⟩, ⟨3, .phase⟩, ⟨4, .phase⟩, ⟨5, .phase⟩, ⟨6, .phase⟩, ⟨7, .phase⟩], none⟩) rfl (fun K hK => ?_) AllReadyH.nil
          go_simp
          have BW : (w7.setCell ⟨p, 6, none⟩ (.slice A7 n7 c7)).heap[xc]? = w5.heap[xc]? ∧ (w7.setCell ⟨p, 6, none⟩ (.slice A7 n7 c7)).heap[k]? = w5.heap[k]? := ⟨(heap_setCell_other w7 ⟨p, 6, none⟩ xc _ HLX.out.2.2.1).trans hHeld.1, (heap_setCell_other w7 ⟨p, 6, none⟩ k _ HLX.out.2.2.2).trans hHeld.2⟩
          generalize w7.setCell ⟨p, 6, none⟩ (.slice A7 n7 c7) = w8 at *
          clear y7 z7
          refine hK.out _ _ (BW) (fun hHeld => ?_)
          clear hK K
          try simp only [Act.put, stA, stB, stC]
          clear BW
          refine wpAnyH_done (by kernel_rfl) ?_ _
          try unfold NoPanic
          go_wp2
          go_ret
          exact HEND.out w8 H7.out.1 H7.out.2.1 H7.out.2.2
        · go_simp
          have N6' := heap_alloc_new wd (.cells #[.int .u64 (no : Int), .int .u64 (nx : Int), .slice none 0 0, .int .i64 (tl : Int)] 60)
          have BW := HBW.out.alloc HBW.out.size (.cells #[.int .u64 (no : Int), .int .u64 (nx : Int), .slice none 0 0, .int .i64 (tl : Int)] 60)
          obtain ⟨k6, hk6⟩ : ∃ k, k = wd.heap.size := ⟨_, rfl⟩
          rw [← hk6] at N6'
          have N6 := Lib.hid N6'
          clear N6' HBW
          have HBW := Lib.hid BW
          generalize wd.alloc (.cells #[.int .u64 (no : Int), .int .u64 (nx : Int), .slice none 0 0, .int .i64 (tl : Int)] 60) = wd at *
          simp only [← hk6]
          clear hk6
          refine hK.out _ _ (⟨BW.block xc HLX.out.1, BW.block k HLX.out.2.1⟩) (fun hHeld => ?_)
          clear hK K
          try simp only [Act.put, stA, stB, stC]
          clear BW
          refine wpAnyH_ready (rs := [4]) (by kernel_rfl) (by simp) ?_
          refine AllReadyH.cons (o := ⟨some 39, .load 53 (.tmp 38), 53, "files.go:109", #[⟨3, .data⟩], none⟩) rfl (fun K hK => ?_) AllReadyH.nil
          have y6 := HP6.out wd HBW.out
          go_simp
          clear y6
          refine hK.out _ _ (hHeld) (fun hHeld => ?_)
          clear hK K
          try simp only [Act.put, stA, stB, stC]
          skip
          refine wpAnyH_ready (rs := [7]) (by kernel_rfl) (by simp) ?_
          refine AllReadyH.cons (o := ⟨some 42, .call ⟨.builtin .append, #[.tmp 39, .tmp 41], #[53, 53]⟩, 53, "files.go:109", #[⟨4, .data⟩, ⟨6, .data⟩], none⟩) rfl (fun K hK => ?_) AllReadyH.nil
          obtain ⟨v7, w7, hrun, ⟨A7, n7, c7, rfl⟩, hb7, ⟨u7, y7⟩, z7, C7, K7, R7⟩ := begin_end HC5.out.1 HBW.out no nx tl k6 N6.out HC5.out.2 HQ.out.1.n
          refine Lib.wp_append_run _ (.tmp 39) (.tmp 41) 53 53 rfl _ _ rfl rfl _ _ hrun ?_
          have H7 := Lib.hid (And.intro C7 (And.intro K7 (R7 m1 H5.out.2.1)))
          have BW := And.intro (hb7 xc HLX.out.1 HGV.out.1) (hb7 k HLX.out.2.1 HGV.out.2)
          clear hb7 C7 K7 R7 hrun HBW
          refine hK.out _ _ (BW) (fun hHeld => ?_)
          clear hK K
          try simp only [Act.put, stA, stB, stC]
          clear BW
          refine wpAnyH_take (i := 8) (oi := ⟨some 43, .nilCheck (.tmp 35), 0, "files.go:109", #[⟨0, .data⟩, ⟨0, .phase⟩, ⟨1, .phase⟩, ⟨2, .phase⟩, ⟨3, .phase⟩, ⟨4, .phase⟩, ⟨5, .phase⟩, ⟨6, .phase⟩, ⟨7, .phase⟩], none⟩) (v := .pointer (some ⟨p, 0, none⟩)) rfl (by kernel_rfl) (by kernel_rfl) (by kernel_rfl) (fun _ _ _ h => h) (Or.inl ⟨by rfl, fun w hSw => by go_simp⟩) (by assumption) ?_
          try simp only [Act.put, stA, stB, stC]
          refine wpAnyH_take (i := 9) (oi := ⟨some 44, .fieldAddr 82 (.tmp 43) 4, 0, "files.go:109", #[⟨8, .data⟩, ⟨0, .phase⟩, ⟨1, .phase⟩, ⟨2, .phase⟩, ⟨3, .phase⟩, ⟨4, .phase⟩, ⟨5, .phase⟩, ⟨6, .phase⟩, ⟨7, .phase⟩], none⟩) (v := .pointer (some ⟨p, 6, none⟩)) rfl (by kernel_rfl) (by kernel_rfl) (by kernel_rfl) (fun _ _ _ h => h) (Or.inl ⟨by rfl, fun w hSw => by go_simp⟩) (by assumption) ?_
          try simp only [Act.put, stA, stB, stC]
          refine wpAnyH_ready (rs := [10]) (by kernel_rfl) (by simp) ?_
          refine AllReadyH.cons (o := ⟨none, .store 53 (.tmp 44) (.tmp 42), 0, "files.go:109", #[⟨9, .data⟩, ⟨7, .data⟩, ⟨7, .chain⟩, ⟨0, .phase⟩, ⟨1, .phase⟩, ⟨2, .phase⟩, ⟨3, .phase⟩, ⟨4, .phase⟩, ⟨5, .phase⟩, ⟨6, .phase⟩, ⟨7, .phase⟩], none⟩) rfl (fun K hK => ?_) AllReadyH.nil
          go_simp
          have BW : (w7.setCell ⟨p, 6, none⟩ (.slice A7 n7 c7)).heap[xc]? = w5.heap[xc]? ∧ (w7.setCell ⟨p, 6, none⟩ (.slice A7 n7 c7)).heap[k]? = w5.heap[k]? := ⟨(heap_setCell_other w7 ⟨p, 6, none⟩ xc _ HLX.out.2.2.1).trans hHeld.1, (heap_setCell_other w7 ⟨p, 6, none⟩ k _ HLX.out.2.2.2).trans hHeld.2⟩
          generalize w7.setCell ⟨p, 6, none⟩ (.slice A7 n7 c7) = w8 at *
          clear y7 z7
          refine hK.out _ _ (BW) (fun hHeld => ?_)
          clear hK K
          try simp only [Act.put, stA, stB, stC]
          clear BW
          refine wpAnyH_done (by kernel_rfl) ?_ _
          try unfold NoPanic
          go_wp2
          go_ret
          exact HEND.out w8 H7.out.1 H7.out.2.1 H7.out.2.2
      · have h0' : ¬ (en : Int) = 0 := by omega
        have HC0 := Lib.hid h0
        clear h0
        go_wp2_with (go_at_call 80; (refine c80.mono ?_); rintro e w6 ⟨T6, rfl, R6, X6⟩; have H6 := Lib.hid (And.intro R6 X6); clear R6 X6 c80)
        go_ret
        have X6 := HX5.out.trans H6.out.2
        refine ⟨_, _, c, T6, rfl, ⟨en, m1, ⟨?_, rep_good H5.out.2.1⟩, Or.inr ⟨HC0.out, rfl, rfl, rfl⟩⟩, H6.out.1, HR.out.2.1.keep (kp_ext X6), kq_kp (kp_ext X6)⟩
        rw [← HNN.out.1, ← HNN.out.2]
        exact H5.out.1
end Go.Proofs.YtdbhgkbmbbjpdaaGreatDoor.Chr
