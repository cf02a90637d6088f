/- What stands while an act is done: the shelf, the chronicle, the model's list, and the boxes of the call. An act. An act: a record more. Acts that came in: a slice of them, read out of memory. An act, whichever. The law on plain acts, walked. -/
import Derived.Test.YtdbhgkbmbbjpdaaGreatDoorPh
import Derived.Laws.ResultCell
import Derived.Laws.IdiomStrings
import Derived.Lib.AppendZeros
import Derived.Deep.Fields
import Derived.OpenShut
namespace Go.Proofs.YtdbhgkbmbbjpdaaGreatDoor.Chr
open Go.ChangeShapes Go.WideShapes Go.ChangeAt Go.RowKit
open Shf (S str)
open Coin (Rd Row Own sz coin got Pur takeV endV CoinSaid)
open Frm (pack err size kind cnt body noItem itemV OneSaid)
set_option maxRecDepth 8000
set_option linter.unusedVariables false
open Shf (Tag Ext Rep M RdN get Fine)
variable {lo : Nat}
theorem cat_box {w w' : World} {T : Nat → Tag} {p q X : Nat} {c : CD} {cur : Array Value} (h : CAt lo w T p q c) (hX : w.heap[X]? = some (.cells cur 32 (0, 0))) (G : w.grownBy w' (some X)) : CAt lo w' T p q c := by
  obtain ⟨bA, bc, vv, gv, h⟩ := h
  exact ⟨bA, bc, vv, gv, (G.block p (Array.getElem?_eq_some_iff.1 h.row).1 (fun e => by injection e with e; exact notTy h.row (s := 82) (t := 32) (by decide) _ (by rw [e]; exact hX))).trans h.row, h.tp, h.ba.grown G (notTy hX (by decide)), h.vs.grown G (notTy hX (by decide)) (notTy hX (by decide)) (notTy hX (by decide)), h.lp⟩
structure PS (lo : Nat) (w : World) (T : Nat → Tag) (p q : Nat) (m : M) (c : CD) (l : S) (u k : Nat) : Prop where
  R : Rep w T q m
  C : CAt lo w T p q c
  G : CG c m
  P : PI c l u
  len : l.length ≤ k
  hB : c.hB ≤ k
  room : m.room = 1048576
  sum : m.named + m.gone ≤ 500 + 500 * k
  done : m.done ≤ 100 + 8200 * k
theorem PS.cn {w : World} {T : Nat → Tag} {p q : Nat} {m : M} {c : CD} {l : S} {u k : Nat} (h : PS lo w T p q m c l u k) (hk : k ≤ 60) : CN c := ⟨by have := h.P.no; have := h.len; omega, by have := h.hB; omega⟩
theorem PS.below {w w' : World} {T : Nat → Tag} {p q : Nat} {m : M} {c : CD} {l : S} {u k : Nat} (h : PS lo w T p q m c l u k) (B : Below w.heap.size w w') : PS lo w' T p q m c l u k :=
  ⟨h.R.below B, h.C.keep (kp_below B T), h.G, h.P, h.len, h.hB, h.room, h.sum, h.done⟩
theorem PS.more {w : World} {T : Nat → Tag} {p q : Nat} {m : M} {c : CD} {l : S} {u k : Nat} (h : PS lo w T p q m c l u k) : PS lo w T p q m c l u (k + 1) :=
  ⟨h.R, h.C, h.G, h.P, by have := h.len; omega, by have := h.hB; omega, h.room, by have := h.sum; omega, by have := h.done; omega⟩
theorem PS.box {w w' : World} {T : Nat → Tag} {p q : Nat} {m : M} {c : CD} {l : S} {u k X : Nat} {cur : Array Value} (h : PS lo w T p q m c l u k) (G : w.grownBy w' (some X)) (hX : w.heap[X]? = some (.cells cur 32 (0, 0))) (hT : T X = .none) : PS lo w' T p q m c l u k :=
  ⟨rep_box h.R G hT, cat_box h.C hX G, h.G, h.P, h.len, h.hB, h.room, h.sum, h.done⟩
theorem PS.app {w w' : World} {T T' : Nat → Tag} {p q : Nat} {m m' : M} {c c' : CD} {l : S} {u k : Nat} (h : PS lo w T p q m c l u k) (hk : k < 60) (b : UInt8) (kk : UInt8) (hkk : kk.toNat = 107 + b.toNat % 3)
    (G' : CG c' m') (hm : More c kk (byL b.toNat) c') (R' : Rep w' T' q m') (C' : CAt lo w' T' p q c') (hr : m'.room = m.room) (hs : m'.named + m'.gone ≤ m.named + m.gone + 50 + (pack kk (byL b.toNat)).length) (hd : m'.done ≤ m.done + 7) : PS lo w' T' p q m' c' (l ++ [b]) u (k + 1) := by
  have hpl : (pack kk (byL b.toNat)).length ≤ 100 := by
    have h2 := byL_len b.toNat
    rw [Frm.length_pack]
    have h3 := Coin.sz_le (byL b.toNat).length
    omega
  obtain ⟨_, ⟨s1, s2, s3, s4, s5, s6⟩, hlen, hnx, hsz⟩ := hm.mr
  exact ⟨R', C', G', h.P.more h.G hm b hkk rfl (by have := h.len; omega), by have := h.len; simp; omega, by rw [s2]; have := h.hB; omega, hr.trans h.room, by have := h.sum; omega, by have := h.done; omega⟩
theorem PS.sync {w w' : World} {T T' : Nat → Tag} {p q : Nat} {m m' : M} {c : CD} {l : S} {u k : Nat} (h : PS lo w T p q m c l u k)
    (G' : CG c m') (R' : Rep w' T' q m') (C' : CAt lo w' T' p q c) (hr : m'.room = m.room) (hs : m'.named + m'.gone = m.named + m.gone) (hd : m'.done ≤ m.done + 1) : PS lo w' T' p q m' c l u (k + 1) :=
  ⟨R', C', G', h.P, by have := h.len; omega, by have := h.hB; omega, hr.trans h.room, by have := h.sum; omega, by have := h.done; omega⟩
theorem base_len (n : Nat) (h : n < 100) : (baseS n).length ≤ 6 := by
  have := dec_len n h
  unfold baseS
  simp only [List.length_append, List.length_cons, List.length_nil]
  omega
set_option maxRecDepth 40000 in
theorem PS.fold {w w' : World} {T T' : Nat → Tag} {p q : Nat} {m m' : M} {c : CD} {l : S} {u k n : Nat} (h : PS lo w T p q m c l u k) (hk : k < 60) (h1 : u < n) (h2 : n ≤ l.length)
    (G' : CG (foldC c n (baseS n)) m') (R' : Rep w' T' q m') (C' : CAt lo w' T' p q (foldC c n (baseS n))) (hr : m'.room = m.room) (hs : m'.named + m'.gone ≤ m.named + m.gone + (baseS n).length + 100) (hd : m'.done ≤ m.done + 8100) : PS lo w' T' p q m' (foldC c n (baseS n)) l n (k + 1) := by
  have hb := base_len n (by have := h.P.len; omega)
  have hsu := h.sum
  have hdn := h.done
  generalize (baseS n).length = z at hs hb
  have e1 : m'.named + m'.gone ≤ 500 + 500 * (k + 1) := by clear hd hdn hr; omega
  have e2 : m'.done ≤ 100 + 8200 * (k + 1) := by
    clear hs hsu hr hb e1
    generalize m'.done = a at *
    generalize m.done = b at *
    omega
  exact ⟨R', C', G', h.P.fold h1 h2, by have := h.len; omega, by show c.hB + 1 ≤ _; have := h.hB; omega, hr.trans h.room, e1, e2⟩
structure Bx (lo : Nat) (w0 : World) (T0 : Nat → Tag) (b : Nat) (M4 M5 M6 : Array Value) (p q : Nat) (m : M) (c : CD) (l : S) (u k : Nat) (A : Option Addr) (cp : Nat) (ll : S) (w : World) (T : Nat → Tag) : Prop where
  ps : PS lo w T p q m c l u k
  L : PAt w T A cp ll
  K : Kq lo w0 T0 w T
  r4 : w.heap[b]? = some (.cells M4 32 (0, 0))
  r5 : w.heap[b + 1]? = some (.cells M5 36 (0, 0))
  r6 : w.heap[b + 1 + 1]? = some (.cells M6 32 (0, 0))
  lb : w0.heap.size ≤ b
  t : T b = .none ∧ T (b + 1) = .none ∧ T (b + 1 + 1) = .none
variable {w0 : World} {T0 : Nat → Tag} {b : Nat} {M4 M5 M6 : Array Value} {p q : Nat} {m : M} {c : CD} {l : S} {u k : Nat} {A : Option Addr} {cp : Nat} {ll : S} {w : World} {T : Nat → Tag}
theorem Bx.low {w' : World} (h : Bx lo w0 T0 b M4 M5 M6 p q m c l u k A cp ll w T) (B : Below w.heap.size w w') : Bx lo w0 T0 b M4 M5 M6 p q m c l u k A cp ll w' T :=
  ⟨h.ps.below B, h.L.below B, h.K.trans (kq_kp (kp_below B T)), (B.block _ (Array.getElem?_eq_some_iff.1 h.r4).1).trans h.r4, (B.block _ (Array.getElem?_eq_some_iff.1 h.r5).1).trans h.r5, (B.block _ (Array.getElem?_eq_some_iff.1 h.r6).1).trans h.r6, h.lb, h.t⟩
theorem Bx.call {w' : World} {T' : Nat → Tag} {m' : M} {c' : CD} {l' : S} {u' k' : Nat} (h : Bx lo w0 T0 b M4 M5 M6 p q m c l u k A cp ll w T) (X : Kq lo w T w' T') (P : PS lo w' T' p q m' c' l' u' k') : Bx lo w0 T0 b M4 M5 M6 p q m' c' l' u' k' A cp ll w' T' := by
  have kb : ∀ {i t cur}, w.heap[i]? = some (.cells cur t (0, 0)) → T i = .none → t ≠ 82 → t ≠ 60 → t ≠ 75 → w'.heap[i]? = some (.cells cur t (0, 0)) := fun hr ht h1 h2 h3 => (X.block _ (Array.getElem?_eq_some_iff.1 hr).1 ht (notTy hr h1) (notTy hr h2) (notTy hr h3)).trans hr
  have l4 := (Array.getElem?_eq_some_iff.1 h.r4).1
  have l5 := (Array.getElem?_eq_some_iff.1 h.r5).1
  have l6 := (Array.getElem?_eq_some_iff.1 h.r6).1
  exact ⟨P, h.L.kq X, h.K.trans X, kb h.r4 h.t.1 (by decide) (by decide) (by decide), kb h.r5 h.t.2.1 (by decide) (by decide) (by decide), kb h.r6 h.t.2.2 (by decide) (by decide) (by decide), h.lb, X.tag _ l4 h.t.1, X.tag _ l5 h.t.2.1, X.tag _ l6 h.t.2.2⟩
theorem Kq.box {w w2 w3 : World} {T T2 : Nat → Tag} {X : Nat} (K : Kq lo w T w2 T2) (G : w2.grownBy w3 (some X)) (hX : w.heap.size ≤ X) : Kq lo w T w3 T2 :=
  ⟨Nat.le_trans K.size G.size, K.tag, fun i hi hn h1 h2 h3 => (G.block i (Nat.lt_of_lt_of_le hi K.size) (fun e => by injection e with e; omega)).trans (K.block i hi hn h1 h2 h3), G.os.trans K.os, G.tape.trans K.tape, G.output.trans K.output, fun i hi hn hl => (G.block i (Nat.lt_of_lt_of_le hi K.size) (fun e => by injection e with e; omega)).trans (K.low i hi hn hl)⟩
theorem Bx.at4 {w' : World} {M4' : Array Value} (h : Bx lo w0 T0 b M4 M5 M6 p q m c l u k A cp ll w T) (G : w.grownBy w' (some b)) (r : w'.heap[b]? = some (.cells M4' 32 (0, 0))) : Bx lo w0 T0 b M4' M5 M6 p q m c l u k A cp ll w' T :=
  ⟨h.ps.box G h.r4 h.t.1, h.L.grown G (notTy h.r4 (by decide)), h.K.box G h.lb, r, (G.block _ (Array.getElem?_eq_some_iff.1 h.r5).1 (fun e => by injection e with e; omega)).trans h.r5, (G.block _ (Array.getElem?_eq_some_iff.1 h.r6).1 (fun e => by injection e with e; omega)).trans h.r6, h.lb, h.t⟩
theorem Bx.at6 {w' : World} {M6' : Array Value} (h : Bx lo w0 T0 b M4 M5 M6 p q m c l u k A cp ll w T) (G : w.grownBy w' (some (b + 1 + 1))) (r : w'.heap[b + 1 + 1]? = some (.cells M6' 32 (0, 0))) : Bx lo w0 T0 b M4 M5 M6' p q m c l u k A cp ll w' T :=
  ⟨h.ps.box G h.r6 h.t.2.2, h.L.grown G (notTy h.r6 (by decide)), h.K.box G (by have := h.lb; omega), (G.block _ (Array.getElem?_eq_some_iff.1 h.r4).1 (fun e => by injection e with e; omega)).trans h.r4, (G.block _ (Array.getElem?_eq_some_iff.1 h.r5).1 (fun e => by injection e with e; omega)).trans h.r5, r, h.lb, h.t⟩
theorem bx_start {w : World} {T : Nat → Tag} (H : PS lo w T p q m c l u k) (L : PAt w T A cp ll) (M4 M5 M6 : Array Value) : Bx lo w T w.heap.size M4 M5 M6 p q m c l u k A cp ll (((w.alloc (.cells M4 32)).alloc (.cells M5 36)).alloc (.cells M6 32)) T := by
  have B1 : Below w.heap.size w (w.alloc (.cells M4 32)) := (Below.refl _ _).alloc (Nat.le_refl _) _
  have B2 := B1.alloc (o := .cells M5 36) B1.size
  have B3 := B2.alloc (o := .cells M6 32) B2.size
  have s1 : (w.alloc (.cells M4 32)).heap.size = w.heap.size + 1 := by show (w.heap.push _).size = _; simp
  have s2 : ((w.alloc (.cells M4 32)).alloc (.cells M5 36)).heap.size = w.heap.size + 1 + 1 := by show ((w.alloc (.cells M4 32)).heap.push _).size = _; rw [Array.size_push, s1]
  have n4 := heap_alloc_new w (.cells M4 32)
  have n5 := heap_alloc_new (w.alloc (.cells M4 32)) (.cells M5 36)
  have n6 := heap_alloc_new ((w.alloc (.cells M4 32)).alloc (.cells M5 36)) (.cells M6 32)
  rw [s1] at n5
  rw [s2] at n6
  refine ⟨H.below B3, L.below B3, kq_kp (kp_below B3 T), ?_, ?_, n6, Nat.le_refl _, rep_old H.R (Nat.le_refl _), rep_old H.R (by omega), rep_old H.R (by omega)⟩
  · rw [heap_alloc_old _ _ (by rw [s2]; omega), heap_alloc_old _ _ (by rw [s1]; omega)]
    exact n4
  · rw [heap_alloc_old _ _ (by rw [s2]; omega)]
    exact n5
theorem results_ct {P : Program} {fn : Func} {p u : Tmp} {ty : TypeId} (h : fn.results = #[.cell p ty, .tmp u]) (tmps : Array Value) (w : World) (g : Nat) (t : TypeId) (cs : Array Value) (fr : Nat × Nat) (d : TypeDesc) (y : Value)
    (hp : tmps.getD p undef = .pointer (some ⟨g, 0, none⟩)) (hy : tmps.getD u undef = y) (hg : w.heap[g]? = some (.cells cs t fr))
    (hu : P.underlying ty = some d) (hd : (match d with | .struct _ | .array _ _ => true | _ => false) = true) (hi : (P.info? ty).map (·.size) = some cs.size) :
    (results fn tmps).run P w = .ok (.tuple #[.agg cs, y]) w := by
  rw [results_cell_tmp h, hp, hy]
  simp [asAddr, run_loadVar_row w g t ty cs fr d hg hu hd hi, Result.andThen]
theorem put32 {w : World} {g : Nat} {a b c : Value} (h : w.heap[g]? = some (.cells #[a, b, c] 32 (0, 0))) (x y z : Value) : (((w.setCell ⟨g, 0, none⟩ x).setCell ⟨g, 1, none⟩ y).setCell ⟨g, 2, none⟩ z).heap[g]? = some (.cells #[x, y, z] 32 (0, 0)) := by
  have h0 := heap_setCell_same w g 0 _ 32 x h
  have h1 := heap_setCell_same _ g 1 _ 32 y h0
  have h2 := heap_setCell_same _ g 2 _ 32 z h1
  rw [h2]
  rfl
theorem actC {w : World} {g : Nat} {x0 x1 x2 : Value} (h : w.heap[g]? = some (.cells #[x0, x1, x2] 36 (0, 0))) : w.cell? ⟨g, 0, none⟩ = some x0 ∧ w.cell? ⟨g, 1, none⟩ = some x1 ∧ w.cell? ⟨g, 2, none⟩ = some x2 :=
  ⟨cell_of_row w g 0 _ 36 (0, 0) h, cell_of_row w g 1 _ 36 (0, 0) h, cell_of_row w g 2 _ 36 (0, 0) h⟩
def DoSaid (lo : Nat) (w0 : World) (T0 : Nat → Tag) (p q k : Nat) (e : Ending) (w' : World) : Prop :=
  ∃ m' c' l' u' A' cp' T' sf', e = .returned (.tuple #[.agg #[.slice A' l'.length cp', .int .i64 ((u' : Nat) : Int), .int .i64 sf'], .bool true]) ∧ PS lo w' T' p q m' c' l' u' (k + 1) ∧ PAt w' T' A' cp' l' ∧ Kq lo w0 T0 w' T'
end Go.Proofs.YtdbhgkbmbbjpdaaGreatDoor.Chr
namespace Go.Proofs.YtdbhgkbmbbjpdaaGreatDoor.Chr
open Go.ChangeShapes Go.WideShapes Go.ChangeAt Go.RowKit
open Shf (S str)
open Coin (Rd Row Own sz coin got Pur takeV endV CoinSaid)
open Frm (pack err size kind cnt body noItem itemV OneSaid)
set_option maxRecDepth 8000
set_option linter.unusedVariables false
open Shf (Tag Ext Rep M RdN get Fine)
variable {lo : Nat}
theorem conv_str (w : World) (T : Nat → Tag) (s : S) (hT : T w.heap.size = .none) : ∃ cp w', (convert 9 30 (.string (str s))).run Tryz.prog w = .ok (.slice (some ⟨w.heap.size, 0, none⟩) s.length cp) w' ∧ Below w.heap.size w w' ∧ AAt w' T (some ⟨w.heap.size, 0, none⟩) cp s := by
  have hr := run_bytes_of_string (P := Tryz.prog) w 9 30 5 (str s) Tryz.underlying9 Tryz.underlying30 Tryz.underlying5
  generalize grownCap w (str s).size 0 5 = cap at hr
  have hn := heap_alloc_new w.drew (.cells (bytesRow (str s) cap) 5 ((bytesRow (str s) cap).size, (bytesRow (str s) cap).size + 1))
  refine ⟨_, _, hr, ((Below.refl _ _).drew).alloc (Nat.le_refl _) _, ?_⟩
  unfold AAt RdN
  refine ⟨(fun h => by cases h), ⟨fun h0 => ⟨_, rfl, fun j hj => ?_⟩, fun h0 ad e => ?_⟩, fun h0 ad e => ?_⟩
  · rw [Coin.zero_add', cell_of_row _ w.heap.size j _ 5 _ hn]
    unfold bytesRow
    rw [Array.getElem?_append_left (by simp [str]; omega)]
    simp [str, hj, Shf.b8]
  · injection e with e
    subst e
    exact ⟨hT, by show w.heap.size < (w.drew.heap.push _).size; rw [Array.size_push]; exact Nat.lt_succ_self _⟩
  · injection e with e
    subst e
    refine ⟨fun cur x => ?_, fun cur x => ?_, fun cur x => ?_⟩ <;>
    · have x2 := hn.symm.trans x
      injection x2 with x2
      injection x2 with _ x2 _
      exact absurd x2 (by decide)
theorem do_none (w : World) (T : Nat → Tag) (p q : Nat) (m : M) (c : CD) (l : S) (u k : Nat) (H : PS lo w T p q m c l u k) (hk60 : k < 60) (A : Option Addr) (cp : Nat) (L : PAt w T A cp l) (sf : Int) (aK aA aB kk : Nat) (hk : kk = aK % 10) (h9 : kk = 9) :
    Calls Tryz.prog 12 #[.pointer (some ⟨p, 0, none⟩), .agg #[.slice A l.length cp, .int .i64 (u : Int), .int .i64 sf], .agg #[.int .u8 (aK : Int), .int .u8 (aA : Int), .int .u8 (aB : Int)]] w (DoSaid lo w T p q k) := by
  have h0 : (aK : Int).tmod 10 = (kk : Int) := by rw [hk, Int.tmod_eq_emod_of_nonneg (by omega)]; omega
  have hk6 : ¬ kk < 6 := by omega
  have hk8 : ¬ kk < 8 := by omega
  have hk88 : ¬ kk = 8 := by omega
  clear h9
  have hlk := H.len
  have HB := Lib.hid (bx_start H L #[.slice A l.length cp, .int .i64 (u : Int), .int .i64 sf] #[.int .u8 (aK : Int), .int .u8 (aA : Int), .int .u8 (aB : Int)] #[.slice none 0 0, .int .i64 0, .int .i64 0])
  obtain ⟨w1, hw1⟩ : ∃ x, x = ((w.alloc (.cells #[.slice A l.length cp, .int .i64 (u : Int), .int .i64 sf] 32)).alloc (.cells #[.int .u8 (aK : Int), .int .u8 (aA : Int), .int .u8 (aB : Int)] 36)).alloc (.cells #[.slice none 0 0, .int .i64 0, .int .i64 0] 32) := ⟨_, rfl⟩
  obtain ⟨b, hb⟩ : ∃ x, x = w.heap.size := ⟨_, rfl⟩
  obtain ⟨n, hn⟩ : ∃ x, x = l.length := ⟨_, rfl⟩
  rw [← hw1, ← hb, ← hn] at HB
  have hn60 : n < 60 := by omega
  have HN := Lib.hid (And.intro hn (And.intro hn60 hk60))
  have HK := Lib.hid hk
  rw [← hn] at hw1
  rw [← hn]
  clear L H hn hk hlk hn60 hk60
  go_enter Tryz.func12, Tryz.ntmps12
  go_upto_region 1 with (fail)
  rw [← hw1, ← hb]
  clear hw1 hb
  obtain ⟨a0, a1, a2⟩ := actC HB.out.r5
  obtain ⟨y0, y1, y2, yf⟩ := cells3 HB.out.r4
  obtain ⟨z0, z1, z2, zf⟩ := cells3 HB.out.r6
  have G6 := Lib.hid (set3_grown w1 (b + 1 + 1) (.slice A n cp) (.int .i64 (u : Int)) (.int .i64 sf))
  have R6 := Lib.hid (put32 HB.out.r6 (.slice A n cp) (.int .i64 (u : Int)) (.int .i64 sf))
  go_wp2
  have HE := Lib.hid (HB.out.at6 G6.out R6.out)
  refine bodyPost_ret (results_ct rfl _ _ (b + 1 + 1) 32 _ (0, 0) _ (.bool true) rfl rfl R6.out Tryz.underlying32 rfl (by kernel_rfl)) rfl ?_
  exact ⟨m, c, l, u, A, cp, T, sf, by rw [HN.out.1], HE.out.ps.more, HE.out.L, HE.out.K⟩
theorem do_sync (w : World) (T : Nat → Tag) (p q : Nat) (m : M) (c : CD) (l : S) (u k : Nat) (H : PS lo w T p q m c l u k) (hk60 : k < 60) (A : Option Addr) (cp : Nat) (L : PAt w T A cp l) (sf : Int) (aK aA aB kk : Nat) (hk : kk = aK % 10) (h6 : 6 ≤ kk) (h7 : kk < 8) :
    Calls Tryz.prog 12 #[.pointer (some ⟨p, 0, none⟩), .agg #[.slice A l.length cp, .int .i64 (u : Int), .int .i64 sf], .agg #[.int .u8 (aK : Int), .int .u8 (aA : Int), .int .u8 (aB : Int)]] w (DoSaid lo w T p q k) := by
  have h0 : (aK : Int).tmod 10 = (kk : Int) := by rw [hk, Int.tmod_eq_emod_of_nonneg (by omega)]; omega
  have hk6 : ¬ kk < 6 := by omega
  clear h6
  have hlk := H.len
  have HB := Lib.hid (bx_start H L #[.slice A l.length cp, .int .i64 (u : Int), .int .i64 sf] #[.int .u8 (aK : Int), .int .u8 (aA : Int), .int .u8 (aB : Int)] #[.slice none 0 0, .int .i64 0, .int .i64 0])
  obtain ⟨w1, hw1⟩ : ∃ x, x = ((w.alloc (.cells #[.slice A l.length cp, .int .i64 (u : Int), .int .i64 sf] 32)).alloc (.cells #[.int .u8 (aK : Int), .int .u8 (aA : Int), .int .u8 (aB : Int)] 36)).alloc (.cells #[.slice none 0 0, .int .i64 0, .int .i64 0] 32) := ⟨_, rfl⟩
  obtain ⟨b, hb⟩ : ∃ x, x = w.heap.size := ⟨_, rfl⟩
  obtain ⟨n, hn⟩ : ∃ x, x = l.length := ⟨_, rfl⟩
  rw [← hw1, ← hb, ← hn] at HB
  have hn60 : n < 60 := by omega
  have HN := Lib.hid (And.intro hn (And.intro hn60 hk60))
  have HK := Lib.hid hk
  rw [← hn] at hw1
  rw [← hn]
  clear L H hn hk hlk hn60 hk60
  go_enter Tryz.func12, Tryz.ntmps12
  go_upto_region 1 with (fail)
  rw [← hw1, ← hb]
  clear hw1 hb
  obtain ⟨a0, a1, a2⟩ := actC HB.out.r5
  obtain ⟨y0, y1, y2, yf⟩ := cells3 HB.out.r4
  obtain ⟨z0, z1, z2, zf⟩ := cells3 HB.out.r6
  have c23 := sync_cg w1 T p q m c HB.out.ps.R HB.out.ps.C HB.out.ps.G (HB.out.ps.cn (by have := HN.out.2.2; omega)) (HB.out.ps.P.small HB.out.ps.G) (by have := HB.out.ps.done; have := HN.out.2.2; omega)
  go_upto_region 12 with (go_at_call 23; (with_reducible refine c23.mono ?_); rintro e w2 ⟨m2, T2, rfl, G2, S2, R2, C2, K2, r2, s2, d2, -⟩; have HB2 := Lib.hid (HB.out.call K2 (HB.out.ps.sync G2 R2 C2 r2 s2 d2)); clear G2 S2 R2 C2 K2 r2 s2 d2 c23 a0 a1 a2 y0 y1 y2 yf z0 z1 z2 zf)
  obtain ⟨y0, y1, y2, yf⟩ := cells3 HB2.out.r4
  have HB3' := HB2.out.at4 (Shf.grown_set w2 b 2 (.int .i64 (n : Int))) (heap_setCell_same w2 b 2 _ 32 _ HB2.out.r4)
  rw [show (#[.slice A n cp, .int .i64 (u : Int), .int .i64 sf] : Array Value).setIfInBounds 2 (.int .i64 (n : Int)) = #[.slice A n cp, .int .i64 (u : Int), .int .i64 (n : Int)] from rfl] at HB3'
  have HB3 := Lib.hid HB3'
  clear HB3'
  go_upto_region 13 with (fail)
  clear y0 y1 y2 yf
  obtain ⟨w3, hw3⟩ : ∃ x, x = w2.setCell ⟨b, 2, none⟩ (.int .i64 (n : Int)) := ⟨_, rfl⟩
  rw [← hw3] at HB3 ⊢
  clear hw3
  obtain ⟨a0, a1, a2⟩ := actC HB3.out.r5
  obtain ⟨y0, y1, y2, yf⟩ := cells3 HB3.out.r4
  obtain ⟨z0, z1, z2, zf⟩ := cells3 HB3.out.r6
  have G6 := Lib.hid (set3_grown w3 (b + 1 + 1) (.slice A n cp) (.int .i64 (u : Int)) (.int .i64 (n : Int)))
  have R6 := Lib.hid (put32 HB3.out.r6 (.slice A n cp) (.int .i64 (u : Int)) (.int .i64 (n : Int)))
  go_wp2
  have HE := Lib.hid (HB3.out.at6 G6.out R6.out)
  refine bodyPost_ret (results_ct rfl _ _ (b + 1 + 1) 32 _ (0, 0) _ (.bool true) rfl rfl R6.out Tryz.underlying32 rfl (by kernel_rfl)) rfl ?_
  exact ⟨m2, c, l, u, A, cp, T2, (n : Int), by rw [HN.out.1], HE.out.ps, HE.out.L, HE.out.K⟩
theorem do_arg1 (w : World) (T : Nat → Tag) (p q : Nat) (m : M) (c : CD) (l : S) (u k : Nat) (H : PS lo w T p q m c l u k) (hk60 : k < 60) (A : Option Addr) (cp : Nat) (L : PAt w T A cp l) (sf : Int) (aK aA aB kk : Nat) (hk : kk = aK % 10) (nn : Nat) (hnn : nn = u + aA % 6) (ha8 : aA < 256) (h8 : kk = 8) (h9 : nn ≤ u) :
    Calls Tryz.prog 12 #[.pointer (some ⟨p, 0, none⟩), .agg #[.slice A l.length cp, .int .i64 (u : Int), .int .i64 sf], .agg #[.int .u8 (aK : Int), .int .u8 (aA : Int), .int .u8 (aB : Int)]] w (DoSaid lo w T p q k) := by
  have h0 : (aK : Int).tmod 10 = (kk : Int) := by rw [hk, Int.tmod_eq_emod_of_nonneg (by omega)]; omega
  have hk6 : ¬ kk < 6 := by omega
  have hk7 : ¬ kk < 8 := by omega
  have hk8 : kk = 8 := h8
  have HARG : Hid (∀ c' : CD, PI c' l u → nn ≤ c'.hU ∨ c'.next ≤ nn) := fun c' P => Or.inl (by rw [P.hU]; exact h9)
  have hz1 : ¬ u < nn := by omega
  clear h9
  have e1 : IntKind.i64.wrap (aA : Int) = (aA : Int) := by rw [IntKind.wrap_i64]; omega
  have e2 : (aA : Int).tmod 6 = ((aA % 6 : Nat) : Int) := by rw [Int.tmod_eq_emod_of_nonneg (by omega)]; omega
  have e3 : IntKind.i64.wrap ((aA % 6 : Nat) : Int) = ((aA % 6 : Nat) : Int) := by rw [IntKind.wrap_i64]; omega
  have hu60 := H.P.le
  have hl60 := H.P.len
  have e4 : IntKind.i64.wrap ((u : Int) + ((aA % 6 : Nat) : Int)) = (nn : Int) := by rw [IntKind.wrap_i64, hnn]; omega
  have e5 : IntKind.u64.wrap (nn : Int) = (nn : Int) := by rw [IntKind.wrap_u64, hnn]; omega
  have hn9 : nn < 100 := by omega
  obtain ⟨sn, hsn⟩ : ∃ s, s = str (dec nn) := ⟨_, rfl⟩
  obtain ⟨sb, hsb⟩ : ∃ s, s = str (baseS nn) := ⟨_, rfl⟩
  have ha : (⟨#[98, 97, 115, 101]⟩ : ByteArray) ++ sn = sb := by rw [hsn, hsb]; exact str_add [98, 97, 115, 101] (dec nn)
  have hs : 4 + sn.size ≤ 9223372036854775807 := by
    rw [hsn]
    have e1 : (str (dec nn)).size ≤ 2 := dec_len nn hn9
    omega
  have HNM : Hid (∀ y, Calls Tryz.prog 29 #[.int .u64 (nn : Int)] y fun e w' => e = .returned (.string sn) ∧ Below y.heap.size y w') := fun y => by rw [hsn]; exact num_any y nn hn9
  have HCV : Hid (∀ y, T y.heap.size = .none → ∃ cp w', (convert 9 30 (.string sb)).run Tryz.prog y = .ok (.slice (some ⟨y.heap.size, 0, none⟩) (baseS nn).length cp) w' ∧ Below y.heap.size y w' ∧ AAt w' T (some ⟨y.heap.size, 0, none⟩) cp (baseS nn)) := fun y hy => by rw [hsb]; exact conv_str y T (baseS nn) hy
  have HNN := Lib.hid (And.intro hnn hn9)
  obtain ⟨r6, hr6⟩ : ∃ r, r = aA % 6 := ⟨_, rfl⟩
  rw [← hr6] at e2 e3 e4
  clear hsn hsb hnn hu60 hl60 hr6
  clear h8 ha8
  have hlk := H.len
  have HB := Lib.hid (bx_start H L #[.slice A l.length cp, .int .i64 (u : Int), .int .i64 sf] #[.int .u8 (aK : Int), .int .u8 (aA : Int), .int .u8 (aB : Int)] #[.slice none 0 0, .int .i64 0, .int .i64 0])
  obtain ⟨w1, hw1⟩ : ∃ x, x = ((w.alloc (.cells #[.slice A l.length cp, .int .i64 (u : Int), .int .i64 sf] 32)).alloc (.cells #[.int .u8 (aK : Int), .int .u8 (aA : Int), .int .u8 (aB : Int)] 36)).alloc (.cells #[.slice none 0 0, .int .i64 0, .int .i64 0] 32) := ⟨_, rfl⟩
  obtain ⟨b, hb⟩ : ∃ x, x = w.heap.size := ⟨_, rfl⟩
  obtain ⟨n, hn⟩ : ∃ x, x = l.length := ⟨_, rfl⟩
  rw [← hw1, ← hb, ← hn] at HB
  have hn60 : n < 60 := by omega
  have HN := Lib.hid (And.intro hn (And.intro hn60 hk60))
  have HK := Lib.hid hk
  rw [← hn] at hw1
  rw [← hn]
  clear L H hn hk hlk hn60 hk60
  go_enter Tryz.func12, Tryz.ntmps12
  go_upto_region 1 with (fail)
  rw [← hw1, ← hb]
  clear hw1 hb
  obtain ⟨a0, a1, a2⟩ := actC HB.out.r5
  obtain ⟨y0, y1, y2, yf⟩ := cells3 HB.out.r4
  obtain ⟨z0, z1, z2, zf⟩ := cells3 HB.out.r6
  have c29 := HNM.out w1
  go_upto_region 17 with (first | ((with_reducible refine c29.mono ?_); rintro e w2 ⟨rfl, B2⟩; obtain ⟨cp9, w3, hcv, B3, A3⟩ := HCV.out w2 (rep_old HB.out.ps.R B2.size); have HB3 := Lib.hid (HB.out.low (B2.trans (B3.mono B2.size))); have HA3 := Lib.hid A3; obtain ⟨n9, hn9⟩ : ∃ n, n = (baseS nn).length := ⟨_, rfl⟩; rw [← hn9] at hcv; have HN9 := Lib.hid hn9; clear a0 a1 a2 y0 y1 y2 yf z0 z1 z2 zf c29 B2 B3 A3 hn9) | (have c32 := fold_arg w3 T p q c HB3.out.ps.C (HB3.out.ps.P.small HB3.out.ps.G) nn (HARG.out c HB3.out.ps.P) (some ⟨w2.heap.size, 0, none⟩) n9 cp9; (with_reducible refine c32.mono ?_); rintro e w4 ⟨rfl, B4⟩; have HB4 := Lib.hid (HB3.out.low B4); clear B4 c32 hcv))
  obtain ⟨a0, a1, a2⟩ := actC HB4.out.r5
  obtain ⟨y0, y1, y2, yf⟩ := cells3 HB4.out.r4
  obtain ⟨z0, z1, z2, zf⟩ := cells3 HB4.out.r6
  have G6 := Lib.hid (set3_grown w4 (b + 1 + 1) (.slice A n cp) (.int .i64 (u : Int)) (.int .i64 sf))
  have R6 := Lib.hid (put32 HB4.out.r6 (.slice A n cp) (.int .i64 (u : Int)) (.int .i64 sf))
  go_wp2
  have HE := Lib.hid (HB4.out.at6 G6.out R6.out)
  refine bodyPost_ret (results_ct rfl _ _ (b + 1 + 1) 32 _ (0, 0) _ (.bool true) rfl rfl R6.out Tryz.underlying32 rfl (by kernel_rfl)) rfl ?_
  exact ⟨m, c, l, u, A, cp, T, sf, by rw [HN.out.1], HE.out.ps.more, HE.out.L, HE.out.K⟩
theorem do_arg2 (w : World) (T : Nat → Tag) (p q : Nat) (m : M) (c : CD) (l : S) (u k : Nat) (H : PS lo w T p q m c l u k) (hk60 : k < 60) (A : Option Addr) (cp : Nat) (L : PAt w T A cp l) (sf : Int) (aK aA aB kk : Nat) (hk : kk = aK % 10) (nn : Nat) (hnn : nn = u + aA % 6) (ha8 : aA < 256) (h8 : kk = 8) (h9 : u < nn) (h10 : l.length < nn) :
    Calls Tryz.prog 12 #[.pointer (some ⟨p, 0, none⟩), .agg #[.slice A l.length cp, .int .i64 (u : Int), .int .i64 sf], .agg #[.int .u8 (aK : Int), .int .u8 (aA : Int), .int .u8 (aB : Int)]] w (DoSaid lo w T p q k) := by
  have h0 : (aK : Int).tmod 10 = (kk : Int) := by rw [hk, Int.tmod_eq_emod_of_nonneg (by omega)]; omega
  have hk6 : ¬ kk < 6 := by omega
  have hk7 : ¬ kk < 8 := by omega
  have hk8 : kk = 8 := h8
  have HARG : Hid (∀ c' : CD, PI c' l u → nn ≤ c'.hU ∨ c'.next ≤ nn) := fun c' P => Or.inr (by rw [P.next]; omega)
  have hz1 : ∀ n, n = l.length → ¬ nn ≤ n := fun n e => by omega
  have hz2 : u < nn := h9
  clear h9 h10
  have e1 : IntKind.i64.wrap (aA : Int) = (aA : Int) := by rw [IntKind.wrap_i64]; omega
  have e2 : (aA : Int).tmod 6 = ((aA % 6 : Nat) : Int) := by rw [Int.tmod_eq_emod_of_nonneg (by omega)]; omega
  have e3 : IntKind.i64.wrap ((aA % 6 : Nat) : Int) = ((aA % 6 : Nat) : Int) := by rw [IntKind.wrap_i64]; omega
  have hu60 := H.P.le
  have hl60 := H.P.len
  have e4 : IntKind.i64.wrap ((u : Int) + ((aA % 6 : Nat) : Int)) = (nn : Int) := by rw [IntKind.wrap_i64, hnn]; omega
  have e5 : IntKind.u64.wrap (nn : Int) = (nn : Int) := by rw [IntKind.wrap_u64, hnn]; omega
  have hn9 : nn < 100 := by omega
  obtain ⟨sn, hsn⟩ : ∃ s, s = str (dec nn) := ⟨_, rfl⟩
  obtain ⟨sb, hsb⟩ : ∃ s, s = str (baseS nn) := ⟨_, rfl⟩
  have ha : (⟨#[98, 97, 115, 101]⟩ : ByteArray) ++ sn = sb := by rw [hsn, hsb]; exact str_add [98, 97, 115, 101] (dec nn)
  have hs : 4 + sn.size ≤ 9223372036854775807 := by
    rw [hsn]
    have e1 : (str (dec nn)).size ≤ 2 := dec_len nn hn9
    omega
  have HNM : Hid (∀ y, Calls Tryz.prog 29 #[.int .u64 (nn : Int)] y fun e w' => e = .returned (.string sn) ∧ Below y.heap.size y w') := fun y => by rw [hsn]; exact num_any y nn hn9
  have HCV : Hid (∀ y, T y.heap.size = .none → ∃ cp w', (convert 9 30 (.string sb)).run Tryz.prog y = .ok (.slice (some ⟨y.heap.size, 0, none⟩) (baseS nn).length cp) w' ∧ Below y.heap.size y w' ∧ AAt w' T (some ⟨y.heap.size, 0, none⟩) cp (baseS nn)) := fun y hy => by rw [hsb]; exact conv_str y T (baseS nn) hy
  have HNN := Lib.hid (And.intro hnn hn9)
  obtain ⟨r6, hr6⟩ : ∃ r, r = aA % 6 := ⟨_, rfl⟩
  rw [← hr6] at e2 e3 e4
  clear hsn hsb hnn hu60 hl60 hr6
  clear h8 ha8
  have hlk := H.len
  have HB := Lib.hid (bx_start H L #[.slice A l.length cp, .int .i64 (u : Int), .int .i64 sf] #[.int .u8 (aK : Int), .int .u8 (aA : Int), .int .u8 (aB : Int)] #[.slice none 0 0, .int .i64 0, .int .i64 0])
  obtain ⟨w1, hw1⟩ : ∃ x, x = ((w.alloc (.cells #[.slice A l.length cp, .int .i64 (u : Int), .int .i64 sf] 32)).alloc (.cells #[.int .u8 (aK : Int), .int .u8 (aA : Int), .int .u8 (aB : Int)] 36)).alloc (.cells #[.slice none 0 0, .int .i64 0, .int .i64 0] 32) := ⟨_, rfl⟩
  obtain ⟨b, hb⟩ : ∃ x, x = w.heap.size := ⟨_, rfl⟩
  obtain ⟨n, hn⟩ : ∃ x, x = l.length := ⟨_, rfl⟩
  rw [← hw1, ← hb, ← hn] at HB
  have hn60 : n < 60 := by omega
  have HN := Lib.hid (And.intro hn (And.intro hn60 hk60))
  have HK := Lib.hid hk
  rw [← hn] at hw1
  rw [← hn]
  clear L H hn hk hlk hn60 hk60
  go_enter Tryz.func12, Tryz.ntmps12
  go_upto_region 1 with (fail)
  rw [← hw1, ← hb]
  clear hw1 hb
  have hz3 := hz1 n HN.out.1
  clear hz1
  obtain ⟨a0, a1, a2⟩ := actC HB.out.r5
  obtain ⟨y0, y1, y2, yf⟩ := cells3 HB.out.r4
  obtain ⟨z0, z1, z2, zf⟩ := cells3 HB.out.r6
  have c29 := HNM.out w1
  go_upto_region 17 with (first | ((with_reducible refine c29.mono ?_); rintro e w2 ⟨rfl, B2⟩; obtain ⟨cp9, w3, hcv, B3, A3⟩ := HCV.out w2 (rep_old HB.out.ps.R B2.size); have HB3 := Lib.hid (HB.out.low (B2.trans (B3.mono B2.size))); have HA3 := Lib.hid A3; obtain ⟨n9, hn9⟩ : ∃ n, n = (baseS nn).length := ⟨_, rfl⟩; rw [← hn9] at hcv; have HN9 := Lib.hid hn9; clear a0 a1 a2 y0 y1 y2 yf z0 z1 z2 zf c29 B2 B3 A3 hn9) | (have c32 := fold_arg w3 T p q c HB3.out.ps.C (HB3.out.ps.P.small HB3.out.ps.G) nn (HARG.out c HB3.out.ps.P) (some ⟨w2.heap.size, 0, none⟩) n9 cp9; (with_reducible refine c32.mono ?_); rintro e w4 ⟨rfl, B4⟩; have HB4 := Lib.hid (HB3.out.low B4); clear B4 c32 hcv))
  obtain ⟨a0, a1, a2⟩ := actC HB4.out.r5
  obtain ⟨y0, y1, y2, yf⟩ := cells3 HB4.out.r4
  obtain ⟨z0, z1, z2, zf⟩ := cells3 HB4.out.r6
  have G6 := Lib.hid (set3_grown w4 (b + 1 + 1) (.slice A n cp) (.int .i64 (u : Int)) (.int .i64 sf))
  have R6 := Lib.hid (put32 HB4.out.r6 (.slice A n cp) (.int .i64 (u : Int)) (.int .i64 sf))
  go_wp2
  have HE := Lib.hid (HB4.out.at6 G6.out R6.out)
  refine bodyPost_ret (results_ct rfl _ _ (b + 1 + 1) 32 _ (0, 0) _ (.bool true) rfl rfl R6.out Tryz.underlying32 rfl (by kernel_rfl)) rfl ?_
  exact ⟨m, c, l, u, A, cp, T, sf, by rw [HN.out.1], HE.out.ps.more, HE.out.L, HE.out.K⟩
theorem do_fold (w : World) (T : Nat → Tag) (p q : Nat) (m : M) (c : CD) (l : S) (u k : Nat) (H : PS lo w T p q m c l u k) (hk60 : k < 60) (A : Option Addr) (cp : Nat) (L : PAt w T A cp l) (sf : Int) (aK aA aB kk : Nat) (hk : kk = aK % 10) (nn : Nat) (hnn : nn = u + aA % 6) (ha8 : aA < 256) (h8 : kk = 8) (h9 : u < nn) (h10 : nn ≤ l.length) :
    Calls Tryz.prog 12 #[.pointer (some ⟨p, 0, none⟩), .agg #[.slice A l.length cp, .int .i64 (u : Int), .int .i64 sf], .agg #[.int .u8 (aK : Int), .int .u8 (aA : Int), .int .u8 (aB : Int)]] w (DoSaid lo w T p q k) := by
  have h0 : (aK : Int).tmod 10 = (kk : Int) := by rw [hk, Int.tmod_eq_emod_of_nonneg (by omega)]; omega
  have hk6 : ¬ kk < 6 := by omega
  have hk7 : ¬ kk < 8 := by omega
  have hk8 : kk = 8 := h8
  have HF : Hid (u < nn ∧ nn ≤ l.length) := ⟨h9, h10⟩
  have hz2 : u < nn := h9
  clear h9 h10
  have e1 : IntKind.i64.wrap (aA : Int) = (aA : Int) := by rw [IntKind.wrap_i64]; omega
  have e2 : (aA : Int).tmod 6 = ((aA % 6 : Nat) : Int) := by rw [Int.tmod_eq_emod_of_nonneg (by omega)]; omega
  have e3 : IntKind.i64.wrap ((aA % 6 : Nat) : Int) = ((aA % 6 : Nat) : Int) := by rw [IntKind.wrap_i64]; omega
  have hu60 := H.P.le
  have hl60 := H.P.len
  have e4 : IntKind.i64.wrap ((u : Int) + ((aA % 6 : Nat) : Int)) = (nn : Int) := by rw [IntKind.wrap_i64, hnn]; omega
  have e5 : IntKind.u64.wrap (nn : Int) = (nn : Int) := by rw [IntKind.wrap_u64, hnn]; omega
  have hn9 : nn < 100 := by omega
  obtain ⟨sn, hsn⟩ : ∃ s, s = str (dec nn) := ⟨_, rfl⟩
  obtain ⟨sb, hsb⟩ : ∃ s, s = str (baseS nn) := ⟨_, rfl⟩
  have ha : (⟨#[98, 97, 115, 101]⟩ : ByteArray) ++ sn = sb := by rw [hsn, hsb]; exact str_add [98, 97, 115, 101] (dec nn)
  have hs : 4 + sn.size ≤ 9223372036854775807 := by
    rw [hsn]
    have e1 : (str (dec nn)).size ≤ 2 := dec_len nn hn9
    omega
  have HNM : Hid (∀ y, Calls Tryz.prog 29 #[.int .u64 (nn : Int)] y fun e w' => e = .returned (.string sn) ∧ Below y.heap.size y w') := fun y => by rw [hsn]; exact num_any y nn hn9
  have HCV : Hid (∀ y, T y.heap.size = .none → ∃ cp w', (convert 9 30 (.string sb)).run Tryz.prog y = .ok (.slice (some ⟨y.heap.size, 0, none⟩) (baseS nn).length cp) w' ∧ Below y.heap.size y w' ∧ AAt w' T (some ⟨y.heap.size, 0, none⟩) cp (baseS nn)) := fun y hy => by rw [hsb]; exact conv_str y T (baseS nn) hy
  have HNN := Lib.hid (And.intro hnn hn9)
  obtain ⟨r6, hr6⟩ : ∃ r, r = aA % 6 := ⟨_, rfl⟩
  rw [← hr6] at e2 e3 e4
  clear hsn hsb hnn hu60 hl60 hr6
  clear h8 ha8
  have hlk := H.len
  have HB := Lib.hid (bx_start H L #[.slice A l.length cp, .int .i64 (u : Int), .int .i64 sf] #[.int .u8 (aK : Int), .int .u8 (aA : Int), .int .u8 (aB : Int)] #[.slice none 0 0, .int .i64 0, .int .i64 0])
  obtain ⟨w1, hw1⟩ : ∃ x, x = ((w.alloc (.cells #[.slice A l.length cp, .int .i64 (u : Int), .int .i64 sf] 32)).alloc (.cells #[.int .u8 (aK : Int), .int .u8 (aA : Int), .int .u8 (aB : Int)] 36)).alloc (.cells #[.slice none 0 0, .int .i64 0, .int .i64 0] 32) := ⟨_, rfl⟩
  obtain ⟨b, hb⟩ : ∃ x, x = w.heap.size := ⟨_, rfl⟩
  obtain ⟨n, hn⟩ : ∃ x, x = l.length := ⟨_, rfl⟩
  rw [← hw1, ← hb, ← hn] at HB
  have hn60 : n < 60 := by omega
  have HN := Lib.hid (And.intro hn (And.intro hn60 hk60))
  have HK := Lib.hid hk
  rw [← hn] at hw1
  rw [← hn]
  clear L H hn hk hlk hn60 hk60
  go_enter Tryz.func12, Tryz.ntmps12
  go_upto_region 1 with (fail)
  rw [← hw1, ← hb]
  clear hw1 hb
  have hz3 : nn ≤ n := by rw [HN.out.1]; exact HF.out.2
  obtain ⟨a0, a1, a2⟩ := actC HB.out.r5
  obtain ⟨y0, y1, y2, yf⟩ := cells3 HB.out.r4
  obtain ⟨z0, z1, z2, zf⟩ := cells3 HB.out.r6
  have c29 := HNM.out w1
  go_upto_region 17 with (first | ((with_reducible refine c29.mono ?_); rintro e w2 ⟨rfl, B2⟩; obtain ⟨cp9, w3, hcv, B3, A3⟩ := HCV.out w2 (rep_old HB.out.ps.R B2.size); have HB3 := Lib.hid (HB.out.low (B2.trans (B3.mono B2.size))); have HA3 := Lib.hid A3; obtain ⟨n9, hn9⟩ : ∃ n, n = (baseS nn).length := ⟨_, rfl⟩; rw [← hn9] at hcv; have HN9 := Lib.hid hn9; clear a0 a1 a2 y0 y1 y2 yf z0 z1 z2 zf c29 B2 B3 A3 hn9) | (have c32 := fold_cg w3 T p q m c HB3.out.ps.R HB3.out.ps.C HB3.out.ps.G (HB3.out.ps.cn (by have := HN.out.2.2; omega)) (by have := HB3.out.ps.hB; have := HN.out.2.2; omega) (HB3.out.ps.P.small HB3.out.ps.G) (by rw [HB3.out.ps.P.next]; have := HB3.out.ps.P.len; omega) (by have := HB3.out.ps.done; have := HN.out.2.2; omega) (nms_mono (HB3.out.ps.G.nms (HB3.out.ps.cn (by have := HN.out.2.2; omega))) (by have := HB3.out.ps.P.no; have := HB3.out.ps.P.len; omega)) nn (by rw [HB3.out.ps.P.hU]; exact HF.out.1) (by rw [HB3.out.ps.P.next]; have := HF.out.2; omega) (some ⟨w2.heap.size, 0, none⟩) n9 cp9 (baseS nn) HN9.out HA3.out (by have := base_len nn HNN.out.2; omega) (by rw [HB3.out.ps.room]; have := HB3.out.ps.sum; have := HN.out.2.2; omega); (with_reducible refine c32.mono ?_); rintro e w4 ⟨m4, T4, rfl, G4, S4, N4, R4, C4, K4, r4, s4, d4⟩; have HB4 := Lib.hid (HB3.out.call K4 (HB3.out.ps.fold HN.out.2.2 HF.out.1 HF.out.2 G4 R4 C4 r4 s4 d4)); clear G4 S4 N4 R4 C4 K4 r4 s4 d4 c32 hcv))
  obtain ⟨y0, y1, y2, yf⟩ := cells3 HB4.out.r4
  have HB5' := HB4.out.at4 (Shf.grown_set w4 b 1 (.int .i64 (nn : Int))) (heap_setCell_same w4 b 1 _ 32 _ HB4.out.r4)
  rw [show (#[.slice A n cp, .int .i64 (u : Int), .int .i64 sf] : Array Value).setIfInBounds 1 (.int .i64 (nn : Int)) = #[.slice A n cp, .int .i64 (nn : Int), .int .i64 sf] from rfl] at HB5'
  have HB5 := Lib.hid HB5'
  clear HB5'
  go_upto_region 24 with (fail)
  obtain ⟨w5, hw9⟩ : ∃ x, x = w4.setCell ⟨b, 1, none⟩ (.int .i64 (nn : Int)) := ⟨_, rfl⟩
  rw [← hw9] at HB5 ⊢
  clear hw9
  clear y0 y1 y2 yf
  obtain ⟨y0, y1, y2, yf⟩ := cells3 HB5.out.r4
  have HB6' := HB5.out.at4 (Shf.grown_set w5 b 2 (.int .i64 (n : Int))) (heap_setCell_same w5 b 2 _ 32 _ HB5.out.r4)
  rw [show (#[.slice A n cp, .int .i64 (nn : Int), .int .i64 sf] : Array Value).setIfInBounds 2 (.int .i64 (n : Int)) = #[.slice A n cp, .int .i64 (nn : Int), .int .i64 (n : Int)] from rfl] at HB6'
  have HB6 := Lib.hid HB6'
  clear HB6'
  go_upto_region 25 with (fail)
  obtain ⟨w6, hw9⟩ : ∃ x, x = w5.setCell ⟨b, 2, none⟩ (.int .i64 (n : Int)) := ⟨_, rfl⟩
  rw [← hw9] at HB6 ⊢
  clear hw9
  clear y0 y1 y2 yf
  obtain ⟨a0, a1, a2⟩ := actC HB6.out.r5
  obtain ⟨y0, y1, y2, yf⟩ := cells3 HB6.out.r4
  obtain ⟨z0, z1, z2, zf⟩ := cells3 HB6.out.r6
  have G6 := Lib.hid (set3_grown w6 (b + 1 + 1) (.slice A n cp) (.int .i64 (nn : Int)) (.int .i64 (n : Int)))
  have R6 := Lib.hid (put32 HB6.out.r6 (.slice A n cp) (.int .i64 (nn : Int)) (.int .i64 (n : Int)))
  go_wp2
  have HE := Lib.hid (HB6.out.at6 G6.out R6.out)
  refine bodyPost_ret (results_ct rfl _ _ (b + 1 + 1) 32 _ (0, 0) _ (.bool true) rfl rfl R6.out Tryz.underlying32 rfl (by kernel_rfl)) rfl ?_
  exact ⟨m4, _, l, nn, A, cp, T4, (n : Int), by rw [HN.out.1], HE.out.ps, HE.out.L, HE.out.K⟩
end Go.Proofs.YtdbhgkbmbbjpdaaGreatDoor.Chr
namespace Go.Proofs.YtdbhgkbmbbjpdaaGreatDoor.Chr
open Go.ChangeShapes Go.WideShapes Go.ChangeAt Go.RowKit
open Shf (S str)
open Coin (Rd Row Own sz coin got Pur takeV endV CoinSaid)
open Frm (pack err size kind cnt body noItem itemV OneSaid)
set_option maxRecDepth 8000
set_option linter.unusedVariables false
open Shf (Tag Ext Rep M RdN get Fine)
variable {lo : Nat}
theorem Bx.list {lo : Nat} {w0 : World} {T0 : Nat → Tag} {b : Nat} {M4 M5 M6 : Array Value} {p q : Nat} {m : M} {c : CD} {l : S} {u k : Nat} {A A' : Option Addr} {cp cp' : Nat} {ll ll' : S} {w : World} {T : Nat → Tag} (h : Bx lo w0 T0 b M4 M5 M6 p q m c l u k A cp ll w T) (L : PAt w T A' cp' ll') : Bx lo w0 T0 b M4 M5 M6 p q m c l u k A' cp' ll' w T :=
  ⟨h.ps, L, h.K, h.r4, h.r5, h.r6, h.lb, h.t⟩
theorem apo (w : World) (B : Nat) (v : Value) (l r : S) (A : Option Addr) (m c : Nat) {Bx : Nat} (hown : Own w B v l) (hr : Rd w Bx A r) (hm : m = r.length) (hA : A = none → c = 0) (hlen : l.length + r.length ≤ 1300000) (hB : B ≤ w.heap.size) :
    ∃ v' w', (Builtin.append_ #[30, 30] 30 #[v, .slice A m c]).run Tryz.prog w = .ok v' w' ∧ Own w' B v' (l ++ r) ∧ w.grownBy w' v.ownBlock := by
  obtain ⟨i0, hi, hz0, hz1, hz2⟩ := info_parts Coin.info5
  subst hm
  rcases A with _ | ad
  · have h0 : r = [] := by
      rcases r with _ | ⟨b, r⟩
      · rfl
      · obtain ⟨ad, h, _⟩ := hr (by simp); cases h
    subst h0
    obtain rfl := hA rfl
    exact ⟨v, w, run_append_owned_none (P := Tryz.prog) (w := w) B 30 30 5 i0 1 Tryz.underlying30 hi v l.length (l.map Coin.b8) hown, by simpa using hown, World.grownBy.refl w _⟩
  · have hc : ∀ j u, (r.map Coin.b8)[j]? = some u → w.cell? (ad.add j) = some u := by
      intro j u hj
      by_cases h0 : 0 < r.length
      · obtain ⟨ad', e, h⟩ := hr.src h0
        injection e with e
        subst e
        exact h j u hj
      · obtain rfl : r = [] := List.eq_nil_of_length_eq_zero (by omega)
        simp at hj
    obtain ⟨v', w', h0, h1, h2, _⟩ := run_append_own (P := Tryz.prog) (w := w) B 30 30 5 i0 (.int .u8 0) 1 1 Tryz.underlying30 hi hz0 hz1 hz2 rfl (by decide) v l.length (l.map Coin.b8) hown ad r.length c (r.map Coin.b8) (by simp) hc (Coin.one_b8 r) (by unfold maxLen; omega) (by omega) hB
    exact ⟨v', w', h0, by simpa [Own] using h1, h2⟩
theorem rd_one {w : World} {g aA : Nat} {bv : UInt8} (h : w.heap[g]? = some (.cells #[.int .u8 (aA : Int)] 5 (0, 0))) (hb : bv.toNat = aA) : Rd w (g + 1) (some ⟨g, 0, none⟩) [bv] := fun h0 => ⟨_, rfl, Nat.lt_succ_self _, fun j hj => by
  have hj : j < 1 := hj
  obtain rfl : j = 0 := by omega
  rw [Coin.zero_add', cell_of_row w g 0 _ 5 _ h, ← hb]
  rfl⟩
set_option maxHeartbeats 4000000 in
theorem do_app (w : World) (T : Nat → Tag) (p q : Nat) (m : M) (c : CD) (l : S) (u k : Nat) (H : PS lo w T p q m c l u k) (hk60 : k < 60) (A : Option Addr) (cp : Nat) (L : PAt w T A cp l) (sf : Int) (aK aA aB kk : Nat) (hk : kk = aK % 10) (ha8 : aA < 256) (h6 : kk < 6) :
    Calls Tryz.prog 12 #[.pointer (some ⟨p, 0, none⟩), .agg #[.slice A l.length cp, .int .i64 (u : Int), .int .i64 sf], .agg #[.int .u8 (aK : Int), .int .u8 (aA : Int), .int .u8 (aB : Int)]] w (DoSaid lo w T p q k) := by
  have h0 : (aK : Int).tmod 10 = (kk : Int) := by rw [hk, Int.tmod_eq_emod_of_nonneg (by omega)]; omega
  have hk6 : kk < 6 := h6
  obtain ⟨bv, hbv⟩ : ∃ x : UInt8, x.toNat = aA := ⟨UInt8.ofNat aA, by simp; omega⟩
  obtain ⟨kv, hkv⟩ : ∃ x, x = 107 + aA % 3 := ⟨_, rfl⟩
  obtain ⟨k8, hk8⟩ : ∃ x : UInt8, x.toNat = kv := ⟨UInt8.ofNat kv, by simp; omega⟩
  have HK8 : Hid (k8.toNat = kv ∧ k8.toNat = 107 + bv.toNat % 3 ∧ byL bv.toNat = byL aA ∧ bv.toNat = aA) := ⟨hk8, by rw [hk8, hbv, hkv], by rw [hbv], hbv⟩
  obtain ⟨r3, hr3⟩ : ∃ r, r = aA % 3 := ⟨_, rfl⟩
  have HE3 : Hid ((aA : Int).tmod 3 = (r3 : Int) ∧ IntKind.u8.wrap (107 + (r3 : Int)) = (kv : Int)) := ⟨by rw [hr3, Int.tmod_eq_emod_of_nonneg (by omega)]; omega, by rw [IntKind.wrap_u8]; omega⟩
  have HA8 := Lib.hid ha8
  have HPL : Hid ((pack k8 (byL aA)).length ≤ 100) := by
    have h2 := byL_len aA
    rw [Frm.length_pack]
    have h3 := Coin.sz_le (byL aA).length
    exact Lib.hid (by omega)
  clear hbv hkv hk8 hr3 ha8 h6
  have hlk := H.len
  have HB := Lib.hid (bx_start H L #[.slice A l.length cp, .int .i64 (u : Int), .int .i64 sf] #[.int .u8 (aK : Int), .int .u8 (aA : Int), .int .u8 (aB : Int)] #[.slice none 0 0, .int .i64 0, .int .i64 0])
  obtain ⟨w1, hw1⟩ : ∃ x, x = ((w.alloc (.cells #[.slice A l.length cp, .int .i64 (u : Int), .int .i64 sf] 32)).alloc (.cells #[.int .u8 (aK : Int), .int .u8 (aA : Int), .int .u8 (aB : Int)] 36)).alloc (.cells #[.slice none 0 0, .int .i64 0, .int .i64 0] 32) := ⟨_, rfl⟩
  obtain ⟨b, hb⟩ : ∃ x, x = w.heap.size := ⟨_, rfl⟩
  obtain ⟨n, hn⟩ : ∃ x, x = l.length := ⟨_, rfl⟩
  rw [← hw1, ← hb, ← hn] at HB
  have hn60 : n < 60 := by omega
  have HN := Lib.hid (And.intro hn (And.intro hn60 hk60))
  have HK := Lib.hid hk
  rw [← hn] at hw1
  rw [← hn]
  clear L H hn hk hlk hn60 hk60
  go_enter Tryz.func12, Tryz.ntmps12
  go_upto_region 1 with (fail)
  rw [← hw1, ← hb]
  clear hw1 hb
  obtain ⟨a0, a1, a2⟩ := actC HB.out.r5
  obtain ⟨y0, y1, y2, yf⟩ := cells3 HB.out.r4
  obtain ⟨z0, z1, z2, zf⟩ := cells3 HB.out.r6
  go_upto_region 3 with (fail)
  clear a0 a1 a2 y0 y1 y2 yf z0 z1 z2 zf
  have HBW := Lib.hid ((Below.refl w1.heap.size w1).drew)
  refine wp_region_noPanic ?_
  refine wp_region_held_drew (S := fun y : World => y.heap[b + 1]? = some (.cells #[.int .u8 (aK : Int), .int .u8 (aA : Int), .int .u8 (aB : Int)] 36 (0, 0))) (by kernel_rfl) HB.out.r5 (fun hHeld => ?_)
  generalize w1.drew = wd at *
  refine wpAnyH_take (i := 0) (oi := ⟨some 22, .move (.tmp 0), 26, "law.go:69", #[], none⟩) (v := .pointer (some ⟨p, 0, none⟩)) rfl (by kernel_rfl) (by kernel_rfl) (by kernel_rfl) (fun _ _ _ h => h) (Or.inl ⟨by rfl, fun w hSw => by go_simp⟩) (by assumption) ?_
  try simp only [Act.put, List.setIfInBounds_toArray, List.set_cons_zero, List.set_cons_succ]
  refine wpAnyH_take (i := 1) (oi := ⟨some 23, .fieldAddr 36 (.tmp 5) 1, 0, "law.go:69", #[], none⟩) (v := .pointer (some ⟨b + 1, 1, none⟩)) rfl (by kernel_rfl) (by kernel_rfl) (by kernel_rfl) (fun _ _ _ h => h) (Or.inl ⟨by rfl, fun w hSw => by go_simp⟩) (by assumption) ?_
  try simp only [Act.put, List.setIfInBounds_toArray, List.set_cons_zero, List.set_cons_succ]
  refine wpAnyH_take (i := 2) (oi := ⟨some 24, .load 5 (.tmp 23), 5, "law.go:69", #[⟨1, .data⟩], none⟩) (v := .int .u8 (aA : Int)) rfl (by kernel_rfl) (by kernel_rfl) (by kernel_rfl) (fun _ _ _ h => h) (Or.inl ⟨by rfl, fun w hSw => by obtain ⟨s0, s1, s2⟩ := actC hSw; go_simp⟩) (by assumption) ?_
  try simp only [Act.put, List.setIfInBounds_toArray, List.set_cons_zero, List.set_cons_succ]
  refine wpAnyH_take (i := 3) (oi := ⟨some 25, .binOp .rem 5 (.tmp 24) (.const (.int .u8 3)) 5, 5, "law.go:69", #[⟨2, .data⟩], none⟩) (v := .int .u8 (r3 : Int)) rfl (by kernel_rfl) (by kernel_rfl) (by kernel_rfl) (fun _ _ _ h => h) (Or.inl ⟨by rfl, fun w hSw => by have hz := HE3.out.1; go_simp⟩) (by assumption) ?_
  try simp only [Act.put, List.setIfInBounds_toArray, List.set_cons_zero, List.set_cons_succ]
  refine wpAnyH_take (i := 4) (oi := ⟨some 26, .binOp .add 5 (.const (.int .u8 107)) (.tmp 25) 5, 5, "law.go:69", #[⟨3, .data⟩], none⟩) (v := .int .u8 (kv : Int)) rfl (by kernel_rfl) (by kernel_rfl) (by kernel_rfl) (fun _ _ _ h => h) (Or.inl ⟨by rfl, fun w hSw => by have hz := HE3.out.2; go_simp⟩) (by assumption) ?_
  try simp only [Act.put, List.setIfInBounds_toArray, List.set_cons_zero, List.set_cons_succ]
  refine wpAnyH_take (i := 5) (oi := ⟨some 27, .fieldAddr 36 (.tmp 5) 1, 0, "law.go:69", #[], none⟩) (v := .pointer (some ⟨b + 1, 1, none⟩)) rfl (by kernel_rfl) (by kernel_rfl) (by kernel_rfl) (fun _ _ _ h => h) (Or.inl ⟨by rfl, fun w hSw => by go_simp⟩) (by assumption) ?_
  try simp only [Act.put, List.setIfInBounds_toArray, List.set_cons_zero, List.set_cons_succ]
  refine wpAnyH_take (i := 6) (oi := ⟨some 28, .load 5 (.tmp 27), 5, "law.go:69", #[⟨5, .data⟩], none⟩) (v := .int .u8 (aA : Int)) rfl (by kernel_rfl) (by kernel_rfl) (by kernel_rfl) (fun _ _ _ h => h) (Or.inl ⟨by rfl, fun w hSw => by obtain ⟨s0, s1, s2⟩ := actC hSw; go_simp⟩) (by assumption) ?_
  try simp only [Act.put, List.setIfInBounds_toArray, List.set_cons_zero, List.set_cons_succ]
  refine wpAnyH_ready (rs := [7]) (by kernel_rfl) (by simp) ?_
  refine AllReadyH.cons (o := ⟨some 29, .call ⟨.value (.func 22), #[.tmp 28], #[5]⟩, 30, "law.go:69", #[⟨6, .data⟩], none⟩) rfl (fun K hK => ?_) AllReadyH.nil
  go_simp
  refine (by_any wd aA HA8.out).mono ?_
  rintro e w4 ⟨g4, k4, rfl, hk4, R4, hg4, B4⟩
  have BW := (B4.block _ (Array.getElem?_eq_some_iff.1 hHeld).1).trans hHeld
  have HB4 := Lib.hid (HB.out.low (HBW.out.trans (B4.mono HBW.out.size)))
  have HAA := Lib.hid (And.intro (pat_own (T := T) (B := wd.heap.size) (n := k4) (c := k4) (by rw [hk4]; exact R4.own hg4 (by have := byL_len aA; omega)) (fun i hi => rep_old HB.out.ps.R (Nat.le_trans HBW.out.size hi)) hk4).aat hk4)
  clear R4 hk4 hg4 B4
  refine hK.out _ _ (BW) (fun hHeld => ?_)
  clear hK K
  try simp only [Act.put, List.setIfInBounds_toArray, List.set_cons_zero, List.set_cons_succ]
  clear BW
  refine wpAnyH_ready (rs := [8]) (by kernel_rfl) (by simp) ?_
  refine AllReadyH.cons (o := ⟨some 30, .call ⟨.value (.func 21), #[.tmp 22, .tmp 26, .tmp 29], #[26, 5, 30]⟩, 49, "law.go:69", #[⟨0, .data⟩, ⟨4, .data⟩, ⟨7, .data⟩, ⟨7, .chain⟩], none⟩) rfl (fun K hK => ?_) AllReadyH.nil
  have c21 := append_cg w4 T p q m c HB4.out.ps.R HB4.out.ps.C HB4.out.ps.G (by have := HB4.out.ps.P.no; have := HB4.out.ps.P.len; omega) (by have := HB4.out.ps.hB; have := HN.out.2.2; omega) (HB4.out.ps.P.small HB4.out.ps.G) (by rw [HB4.out.ps.P.next]; have := HB4.out.ps.P.len; omega) (by have := HB4.out.ps.done; have := HN.out.2.2; omega) (nms_mono (HB4.out.ps.G.nms (HB4.out.ps.cn (by have := HN.out.2.2; omega))) (by have := HB4.out.ps.P.no; have := HB4.out.ps.P.len; omega)) k8 (some ⟨g4, 0, none⟩) k4 k4 (byL aA) HAA.out.2 HAA.out.1 (by have := byL_len aA; omega) (by rw [HB4.out.ps.room]; have := HB4.out.ps.sum; have := HN.out.2.2; have := HPL.out; omega)
  rw [HK8.out.1, HB4.out.ps.P.next, ← HN.out.1] at c21
  go_simp
  refine c21.mono ?_
  rintro e w5 ⟨m5, c5, T5, rfl, G5, O5, R5, C5, K5, r5, s5, d5, -⟩
  have HB5 := Lib.hid (HB4.out.call K5 (HB4.out.ps.app HN.out.2.2 bv k8 HK8.out.2.1 G5 (by rw [HK8.out.2.2.1]; exact O5) R5 C5 r5 (by rw [HK8.out.2.2.1]; exact s5) d5))
  clear c21 G5 O5 R5 C5 K5 r5 s5 d5
  refine hK.out _ _ (HB5.out.r5) (fun hHeld => ?_)
  clear hK K
  try simp only [Act.put, List.setIfInBounds_toArray, List.set_cons_zero, List.set_cons_succ]
  skip
  refine wpAnyH_take (i := 9) (oi := ⟨some 21, .move (.tmp 30), 49, "law.go:69", #[⟨8, .data⟩], none⟩) (v := .tuple #[.int .u64 ((n + 1 : Nat) : Int), .int .i64 0]) rfl (by kernel_rfl) (by kernel_rfl) (by kernel_rfl) (fun _ _ _ h => h) (Or.inl ⟨by rfl, fun w hSw => by go_simp⟩) (by assumption) ?_
  try simp only [Act.put, List.setIfInBounds_toArray, List.set_cons_zero, List.set_cons_succ]
  refine wpAnyH_take (i := 10) (oi := ⟨some 31, .extract (.tmp 21) 0, 42, "law.go:69", #[⟨9, .data⟩], none⟩) (v := .int .u64 ((n + 1 : Nat) : Int)) rfl (by kernel_rfl) (by kernel_rfl) (by kernel_rfl) (fun _ _ _ h => h) (Or.inl ⟨by rfl, fun w hSw => by go_simp⟩) (by assumption) ?_
  try simp only [Act.put, List.setIfInBounds_toArray, List.set_cons_zero, List.set_cons_succ]
  refine wpAnyH_take (i := 11) (oi := ⟨some 32, .extract (.tmp 21) 1, 27, "law.go:69", #[⟨9, .data⟩, ⟨12, .gcOnly .lateStores⟩], none⟩) (v := .int .i64 0) rfl (by kernel_rfl) (by kernel_rfl) (by kernel_rfl) (fun _ _ _ h => h) (Or.inl ⟨by rfl, fun w hSw => by go_simp⟩) (by assumption) ?_
  try simp only [Act.put, List.setIfInBounds_toArray, List.set_cons_zero, List.set_cons_succ]
  refine wpAnyH_take (i := 12) (oi := ⟨some 9, .assign (.tmp 31), 42, "law.go:69", #[⟨10, .data⟩, ⟨8, .chain⟩, ⟨0, .phase⟩, ⟨1, .phase⟩, ⟨2, .phase⟩, ⟨3, .phase⟩, ⟨4, .phase⟩, ⟨5, .phase⟩, ⟨6, .phase⟩, ⟨7, .phase⟩, ⟨8, .phase⟩, ⟨9, .phase⟩, ⟨10, .phase⟩, ⟨11, .textOnly .lateStores⟩], none⟩) (v := .int .u64 ((n + 1 : Nat) : Int)) rfl (by kernel_rfl) (by kernel_rfl) (by kernel_rfl) (fun _ _ _ h => h) (Or.inl ⟨by rfl, fun w hSw => by go_simp⟩) (by assumption) ?_
  try simp only [Act.put, List.setIfInBounds_toArray, List.set_cons_zero, List.set_cons_succ]
  refine wpAnyH_take (i := 13) (oi := ⟨some 10, .assign (.tmp 32), 27, "law.go:69", #[⟨11, .data⟩, ⟨12, .chain⟩, ⟨0, .phase⟩, ⟨1, .phase⟩, ⟨2, .phase⟩, ⟨3, .phase⟩, ⟨4, .phase⟩, ⟨5, .phase⟩, ⟨6, .phase⟩, ⟨7, .phase⟩, ⟨8, .phase⟩, ⟨9, .phase⟩, ⟨10, .phase⟩, ⟨11, .phase⟩, ⟨12, .phase⟩], none⟩) (v := .int .i64 0) rfl (by kernel_rfl) (by kernel_rfl) (by kernel_rfl) (fun _ _ _ h => h) (Or.inl ⟨by rfl, fun w hSw => by go_simp⟩) (by assumption) ?_
  try simp only [Act.put, List.setIfInBounds_toArray, List.set_cons_zero, List.set_cons_succ]
  refine wpAnyH_done (by kernel_rfl) ?_ _
  try unfold NoPanic
  obtain ⟨a0, a1, a2⟩ := actC HB5.out.r5
  obtain ⟨y0, y1, y2, yf⟩ := cells3 HB5.out.r4
  obtain ⟨z0, z1, z2, zf⟩ := cells3 HB5.out.r6
  clear hHeld
  have hw1 : IntKind.i64.wrap ((n : Int) + 1) = (n : Int) + 1 := by rw [IntKind.wrap_i64]; have := HN.out.2.1; omega
  go_upto_region 8 with (fail)
  clear a0 a1 a2 y0 y1 y2 yf z0 z1 z2 zf hw1
  have HBW := Lib.hid ((Below.refl w5.heap.size w5).drew)
  refine wp_region_noPanic ?_
  refine wp_region_held_drew (S := fun y : World => y.heap[b + 1]? = some (.cells #[.int .u8 (aK : Int), .int .u8 (aA : Int), .int .u8 (aB : Int)] 36 (0, 0))) (by kernel_rfl) HB5.out.r5 (fun hHeld => ?_)
  generalize w5.drew = wd at *
  refine wpAnyH_take (i := 0) (oi := ⟨some 48, .fieldAddr 32 (.tmp 4) 0, 0, "law.go:76", #[], none⟩) (v := .pointer (some ⟨b, 0, none⟩)) rfl (by kernel_rfl) (by kernel_rfl) (by kernel_rfl) (fun _ _ _ h => h) (Or.inl ⟨by rfl, fun w hSw => by go_simp⟩) (by assumption) ?_
  try simp only [Act.put, List.setIfInBounds_toArray, List.set_cons_zero, List.set_cons_succ]
  refine wpAnyH_take (i := 3) (oi := ⟨some 51, .fieldAddr 36 (.tmp 5) 1, 0, "law.go:76", #[], none⟩) (v := .pointer (some ⟨b + 1, 1, none⟩)) rfl (by kernel_rfl) (by kernel_rfl) (by kernel_rfl) (fun _ _ _ h => h) (Or.inl ⟨by rfl, fun w hSw => by go_simp⟩) (by assumption) ?_
  try simp only [Act.put, List.setIfInBounds_toArray, List.set_cons_zero, List.set_cons_succ]
  refine wpAnyH_take (i := 4) (oi := ⟨some 52, .load 5 (.tmp 51), 5, "law.go:76", #[⟨3, .data⟩], none⟩) (v := .int .u8 (aA : Int)) rfl (by kernel_rfl) (by kernel_rfl) (by kernel_rfl) (fun _ _ _ h => h) (Or.inl ⟨by rfl, fun w hSw => by obtain ⟨s0, s1, s2⟩ := actC hSw; go_simp⟩) (by assumption) ?_
  try simp only [Act.put, List.setIfInBounds_toArray, List.set_cons_zero, List.set_cons_succ]
  refine wpAnyH_ready (rs := [1, 5]) (by kernel_rfl) (by simp) ?_
  refine (AllReadyH.cons (o := ⟨some 49, .load 30 (.tmp 48), 30, "law.go:76", #[⟨0, .data⟩], none⟩) rfl (fun K hK => ?_) (AllReadyH.cons (o := ⟨some 53, .buildSlice 30 1 #[(0, .tmp 52)], 30, "law.go:76", #[⟨4, .data⟩], none⟩) rfl (fun K hK => ?_) AllReadyH.nil))
  · have y0 := (cells3 (HB5.out.low HBW.out).r4).1
    go_simp
    clear y0
    refine hK.out _ _ (hHeld) (fun hHeld => ?_)
    clear hK K
    try simp only [Act.put, List.setIfInBounds_toArray, List.set_cons_zero, List.set_cons_succ]
    skip
    refine wpAnyH_ready (rs := [2, 5]) (by kernel_rfl) (by simp) ?_
    refine (AllReadyH.cons (o := ⟨some 50, .call ⟨.builtin .append, #[.const (.slice none 0 0), .tmp 49], #[30, 30]⟩, 30, "law.go:76", #[⟨1, .data⟩], none⟩) rfl (fun K hK => ?_) (AllReadyH.cons (o := ⟨some 53, .buildSlice 30 1 #[(0, .tmp 52)], 30, "law.go:76", #[⟨4, .data⟩], none⟩) rfl (fun K hK => ?_) AllReadyH.nil))
    · obtain ⟨v2, w2', hrun, O2, G2⟩ := apo wd w5.heap.size (.slice none 0 0) [] l A n cp (Own.nil _ _) (HB5.out.low HBW.out).L.rd HN.out.1 (HB5.out.low HBW.out).L.1 (by have := HB5.out.ps.P.len; simp at this ⊢; omega) HBW.out.size
      refine Lib.wp_append_run _ (.const (.slice none 0 0)) (.tmp 49) 30 30 rfl _ _ rfl rfl _ _ hrun ?_
      have Bs : Below wd.heap.size wd w2' := (Below.refl _ _).grown G2 (Nat.le_refl _) (fun k hk => by cases hk)
      first | (have H5' := Lib.hid ((Bs.block g5 (Array.getElem?_eq_some_iff.1 H5.out).1).trans H5.out); clear H5; have H5 := H5'; clear H5') | skip
      have BW := Lib.hid (HBW.out.trans (Bs.mono HBW.out.size))
      have O2' : Own w2' w5.heap.size v2 l := O2
      have H2 := Lib.hid O2'
      clear O2 O2' G2 hrun Bs HBW hHeld
      have HBW := BW
      clear BW
      generalize w2' = wd at *
      refine hK.out _ _ ((HBW.out.block _ (Array.getElem?_eq_some_iff.1 HB5.out.r5).1).trans HB5.out.r5) (fun hHeld => ?_)
      clear hK K
      try simp only [Act.put, List.setIfInBounds_toArray, List.set_cons_zero, List.set_cons_succ]
      skip
      refine wpAnyH_ready (rs := [5]) (by kernel_rfl) (by simp) ?_
      refine AllReadyH.cons (o := ⟨some 53, .buildSlice 30 1 #[(0, .tmp 52)], 30, "law.go:76", #[⟨4, .data⟩], none⟩) rfl (fun K hK => ?_) AllReadyH.nil
      go_simp
      have Bs := (Below.refl wd.heap.size wd).alloc (Nat.le_refl _) (.cells #[.int .u8 (aA : Int)] 5)
      have N5' := heap_alloc_new wd (.cells #[.int .u8 (aA : Int)] 5)
      first | (have H2' := Lib.hid (H2.out.kept Bs); clear H2; have H2 := H2'; clear H2') | skip
      have BW := Lib.hid (HBW.out.trans (Bs.mono HBW.out.size))
      obtain ⟨g5, hg5⟩ : ∃ k, k = wd.heap.size := ⟨_, rfl⟩
      rw [← hg5] at N5'
      have H5 := Lib.hid N5'
      clear N5' HBW Bs hHeld
      have HBW := BW
      clear BW
      generalize wd.alloc (.cells #[.int .u8 (aA : Int)] 5) = wd at *
      simp only [← hg5]
      clear hg5
      refine hK.out _ _ ((HBW.out.block _ (Array.getElem?_eq_some_iff.1 HB5.out.r5).1).trans HB5.out.r5) (fun hHeld => ?_)
      clear hK K
      try simp only [Act.put, List.setIfInBounds_toArray, List.set_cons_zero, List.set_cons_succ]
      skip
      refine wpAnyH_ready (rs := [6]) (by kernel_rfl) (by simp) ?_
      refine AllReadyH.cons (o := ⟨some 54, .call ⟨.builtin .append, #[.tmp 50, .tmp 53], #[30, 30]⟩, 30, "law.go:76", #[⟨2, .data⟩, ⟨5, .data⟩, ⟨2, .chain⟩], none⟩) rfl (fun K hK => ?_) AllReadyH.nil
      obtain ⟨v6, w6, hrun, O6, G6⟩ := apo wd w5.heap.size v2 l [bv] (some ⟨g5, 0, none⟩) 1 1 H2.out (rd_one H5.out HK8.out.2.2.2) rfl (fun h => by cases h) (by have := HB5.out.ps.P.len; simp at this ⊢; omega) HBW.out.size
      refine Lib.wp_append_run _ (.tmp 50) (.tmp 53) 30 30 rfl _ _ rfl rfl _ _ hrun ?_
      have BW := Lib.hid (HBW.out.grown G6 HBW.out.size (fun k hk => (H2.out.lt k hk).1))
      obtain ⟨A6, c6, hv6, -, -, -⟩ := O6.form
      obtain ⟨n1, hn1⟩ : ∃ x, x = (l ++ [bv]).length := ⟨_, rfl⟩
      rw [← hn1] at hv6
      subst hv6
      have H6 := Lib.hid (And.intro O6 hn1)
      clear hrun O6 G6 hn1 HBW H2 H5 hHeld
      have HBW := BW
      clear BW
      refine hK.out _ _ ((HBW.out.block _ (Array.getElem?_eq_some_iff.1 HB5.out.r5).1).trans HB5.out.r5) (fun hHeld => ?_)
      clear hK K
      try simp only [Act.put, List.setIfInBounds_toArray, List.set_cons_zero, List.set_cons_succ]
      skip
      refine wpAnyH_take (i := 7) (oi := ⟨some 55, .fieldAddr 32 (.tmp 4) 0, 0, "law.go:76", #[⟨0, .phase⟩, ⟨1, .phase⟩, ⟨2, .phase⟩, ⟨3, .phase⟩, ⟨4, .phase⟩, ⟨5, .phase⟩, ⟨6, .phase⟩], none⟩) (v := .pointer (some ⟨b, 0, none⟩)) rfl (by kernel_rfl) (by kernel_rfl) (by kernel_rfl) (fun _ _ _ h => h) (Or.inl ⟨by rfl, fun w hSw => by go_simp⟩) (by assumption) ?_
      try simp only [Act.put, List.setIfInBounds_toArray, List.set_cons_zero, List.set_cons_succ]
      refine wpAnyH_ready (rs := [8]) (by kernel_rfl) (by simp) ?_
      refine AllReadyH.cons (o := ⟨none, .store 30 (.tmp 55) (.tmp 54), 0, "law.go:76", #[⟨7, .data⟩, ⟨6, .data⟩, ⟨6, .chain⟩, ⟨0, .phase⟩, ⟨1, .phase⟩, ⟨2, .phase⟩, ⟨3, .phase⟩, ⟨4, .phase⟩, ⟨5, .phase⟩, ⟨6, .phase⟩], none⟩) rfl (fun K hK => ?_) AllReadyH.nil
      obtain ⟨y0, y1, y2, yf⟩ := cells3 (HB5.out.low HBW.out).r4
      go_simp
      clear y0 y1 y2 yf
      have G8 := Shf.grown_set w6 b 0 (.slice A6 n1 c6)
      have HB8' := (HB5.out.low HBW.out).at4 G8 (heap_setCell_same w6 b 0 _ 32 _ (HB5.out.low HBW.out).r4)
      rw [show (#[.slice A n cp, .int .i64 (u : Int), .int .i64 sf] : Array Value).setIfInBounds 0 (.slice A6 n1 c6) = #[.slice A6 n1 c6, .int .i64 (u : Int), .int .i64 sf] from rfl] at HB8'
      have L8 := (pat_own H6.out.1 (fun i hi => rep_old HB5.out.ps.R hi) H6.out.2).grown G8 (notTy (HB5.out.low HBW.out).r4 (by decide))
      have HB8 := Lib.hid (HB8'.list L8)
      clear HB8' L8 G8 hHeld
      generalize w6.setCell ⟨b, 0, none⟩ (.slice A6 n1 c6) = w8 at *
      refine hK.out _ _ (HB8.out.r5) (fun hHeld => ?_)
      clear hK K
      try simp only [Act.put, List.setIfInBounds_toArray, List.set_cons_zero, List.set_cons_succ]
      skip
      refine wpAnyH_done (by kernel_rfl) ?_ _
      try unfold NoPanic
      go_upto_region 25 with (fail)
      obtain ⟨a0, a1, a2⟩ := actC HB8.out.r5
      obtain ⟨y0, y1, y2, yf⟩ := cells3 HB8.out.r4
      obtain ⟨z0, z1, z2, zf⟩ := cells3 HB8.out.r6
      have G6 := Lib.hid (set3_grown w8 (b + 1 + 1) (.slice A6 n1 c6) (.int .i64 (u : Int)) (.int .i64 sf))
      have R6 := Lib.hid (put32 HB8.out.r6 (.slice A6 n1 c6) (.int .i64 (u : Int)) (.int .i64 sf))
      go_wp2
      have HE := Lib.hid (HB8.out.at6 G6.out R6.out)
      refine bodyPost_ret (results_ct rfl _ _ (b + 1 + 1) 32 _ (0, 0) _ (.bool true) rfl rfl R6.out Tryz.underlying32 rfl (by kernel_rfl)) rfl ?_
      exact ⟨m5, c5, l ++ [bv], u, A6, c6, T5, sf, by rw [H6.out.2], HE.out.ps, HE.out.L, HE.out.K⟩
    · go_simp
      have Bs := (Below.refl wd.heap.size wd).alloc (Nat.le_refl _) (.cells #[.int .u8 (aA : Int)] 5)
      have N5' := heap_alloc_new wd (.cells #[.int .u8 (aA : Int)] 5)
      first | (have H2' := Lib.hid (H2.out.kept Bs); clear H2; have H2 := H2'; clear H2') | skip
      have BW := Lib.hid (HBW.out.trans (Bs.mono HBW.out.size))
      obtain ⟨g5, hg5⟩ : ∃ k, k = wd.heap.size := ⟨_, rfl⟩
      rw [← hg5] at N5'
      have H5 := Lib.hid N5'
      clear N5' HBW Bs hHeld
      have HBW := BW
      clear BW
      generalize wd.alloc (.cells #[.int .u8 (aA : Int)] 5) = wd at *
      simp only [← hg5]
      clear hg5
      refine hK.out _ _ ((HBW.out.block _ (Array.getElem?_eq_some_iff.1 HB5.out.r5).1).trans HB5.out.r5) (fun hHeld => ?_)
      clear hK K
      try simp only [Act.put, List.setIfInBounds_toArray, List.set_cons_zero, List.set_cons_succ]
      skip
      refine wpAnyH_ready (rs := [2]) (by kernel_rfl) (by simp) ?_
      refine AllReadyH.cons (o := ⟨some 50, .call ⟨.builtin .append, #[.const (.slice none 0 0), .tmp 49], #[30, 30]⟩, 30, "law.go:76", #[⟨1, .data⟩], none⟩) rfl (fun K hK => ?_) AllReadyH.nil
      obtain ⟨v2, w2', hrun, O2, G2⟩ := apo wd w5.heap.size (.slice none 0 0) [] l A n cp (Own.nil _ _) (HB5.out.low HBW.out).L.rd HN.out.1 (HB5.out.low HBW.out).L.1 (by have := HB5.out.ps.P.len; simp at this ⊢; omega) HBW.out.size
      refine Lib.wp_append_run _ (.const (.slice none 0 0)) (.tmp 49) 30 30 rfl _ _ rfl rfl _ _ hrun ?_
      have Bs : Below wd.heap.size wd w2' := (Below.refl _ _).grown G2 (Nat.le_refl _) (fun k hk => by cases hk)
      first | (have H5' := Lib.hid ((Bs.block g5 (Array.getElem?_eq_some_iff.1 H5.out).1).trans H5.out); clear H5; have H5 := H5'; clear H5') | skip
      have BW := Lib.hid (HBW.out.trans (Bs.mono HBW.out.size))
      have O2' : Own w2' w5.heap.size v2 l := O2
      have H2 := Lib.hid O2'
      clear O2 O2' G2 hrun Bs HBW hHeld
      have HBW := BW
      clear BW
      generalize w2' = wd at *
      refine hK.out _ _ ((HBW.out.block _ (Array.getElem?_eq_some_iff.1 HB5.out.r5).1).trans HB5.out.r5) (fun hHeld => ?_)
      clear hK K
      try simp only [Act.put, List.setIfInBounds_toArray, List.set_cons_zero, List.set_cons_succ]
      skip
      refine wpAnyH_ready (rs := [6]) (by kernel_rfl) (by simp) ?_
      refine AllReadyH.cons (o := ⟨some 54, .call ⟨.builtin .append, #[.tmp 50, .tmp 53], #[30, 30]⟩, 30, "law.go:76", #[⟨2, .data⟩, ⟨5, .data⟩, ⟨2, .chain⟩], none⟩) rfl (fun K hK => ?_) AllReadyH.nil
      obtain ⟨v6, w6, hrun, O6, G6⟩ := apo wd w5.heap.size v2 l [bv] (some ⟨g5, 0, none⟩) 1 1 H2.out (rd_one H5.out HK8.out.2.2.2) rfl (fun h => by cases h) (by have := HB5.out.ps.P.len; simp at this ⊢; omega) HBW.out.size
      refine Lib.wp_append_run _ (.tmp 50) (.tmp 53) 30 30 rfl _ _ rfl rfl _ _ hrun ?_
      have BW := Lib.hid (HBW.out.grown G6 HBW.out.size (fun k hk => (H2.out.lt k hk).1))
      obtain ⟨A6, c6, hv6, -, -, -⟩ := O6.form
      obtain ⟨n1, hn1⟩ : ∃ x, x = (l ++ [bv]).length := ⟨_, rfl⟩
      rw [← hn1] at hv6
      subst hv6
      have H6 := Lib.hid (And.intro O6 hn1)
      clear hrun O6 G6 hn1 HBW H2 H5 hHeld
      have HBW := BW
      clear BW
      refine hK.out _ _ ((HBW.out.block _ (Array.getElem?_eq_some_iff.1 HB5.out.r5).1).trans HB5.out.r5) (fun hHeld => ?_)
      clear hK K
      try simp only [Act.put, List.setIfInBounds_toArray, List.set_cons_zero, List.set_cons_succ]
      skip
      refine wpAnyH_take (i := 7) (oi := ⟨some 55, .fieldAddr 32 (.tmp 4) 0, 0, "law.go:76", #[⟨0, .phase⟩, ⟨1, .phase⟩, ⟨2, .phase⟩, ⟨3, .phase⟩, ⟨4, .phase⟩, ⟨5, .phase⟩, ⟨6, .phase⟩], none⟩) (v := .pointer (some ⟨b, 0, none⟩)) rfl (by kernel_rfl) (by kernel_rfl) (by kernel_rfl) (fun _ _ _ h => h) (Or.inl ⟨by rfl, fun w hSw => by go_simp⟩) (by assumption) ?_
      try simp only [Act.put, List.setIfInBounds_toArray, List.set_cons_zero, List.set_cons_succ]
      refine wpAnyH_ready (rs := [8]) (by kernel_rfl) (by simp) ?_
      refine AllReadyH.cons (o := ⟨none, .store 30 (.tmp 55) (.tmp 54), 0, "law.go:76", #[⟨7, .data⟩, ⟨6, .data⟩, ⟨6, .chain⟩, ⟨0, .phase⟩, ⟨1, .phase⟩, ⟨2, .phase⟩, ⟨3, .phase⟩, ⟨4, .phase⟩, ⟨5, .phase⟩, ⟨6, .phase⟩], none⟩) rfl (fun K hK => ?_) AllReadyH.nil
      obtain ⟨y0, y1, y2, yf⟩ := cells3 (HB5.out.low HBW.out).r4
      go_simp
      clear y0 y1 y2 yf
      have G8 := Shf.grown_set w6 b 0 (.slice A6 n1 c6)
      have HB8' := (HB5.out.low HBW.out).at4 G8 (heap_setCell_same w6 b 0 _ 32 _ (HB5.out.low HBW.out).r4)
      rw [show (#[.slice A n cp, .int .i64 (u : Int), .int .i64 sf] : Array Value).setIfInBounds 0 (.slice A6 n1 c6) = #[.slice A6 n1 c6, .int .i64 (u : Int), .int .i64 sf] from rfl] at HB8'
      have L8 := (pat_own H6.out.1 (fun i hi => rep_old HB5.out.ps.R hi) H6.out.2).grown G8 (notTy (HB5.out.low HBW.out).r4 (by decide))
      have HB8 := Lib.hid (HB8'.list L8)
      clear HB8' L8 G8 hHeld
      generalize w6.setCell ⟨b, 0, none⟩ (.slice A6 n1 c6) = w8 at *
      refine hK.out _ _ (HB8.out.r5) (fun hHeld => ?_)
      clear hK K
      try simp only [Act.put, List.setIfInBounds_toArray, List.set_cons_zero, List.set_cons_succ]
      skip
      refine wpAnyH_done (by kernel_rfl) ?_ _
      try unfold NoPanic
      go_upto_region 25 with (fail)
      obtain ⟨a0, a1, a2⟩ := actC HB8.out.r5
      obtain ⟨y0, y1, y2, yf⟩ := cells3 HB8.out.r4
      obtain ⟨z0, z1, z2, zf⟩ := cells3 HB8.out.r6
      have G6 := Lib.hid (set3_grown w8 (b + 1 + 1) (.slice A6 n1 c6) (.int .i64 (u : Int)) (.int .i64 sf))
      have R6 := Lib.hid (put32 HB8.out.r6 (.slice A6 n1 c6) (.int .i64 (u : Int)) (.int .i64 sf))
      go_wp2
      have HE := Lib.hid (HB8.out.at6 G6.out R6.out)
      refine bodyPost_ret (results_ct rfl _ _ (b + 1 + 1) 32 _ (0, 0) _ (.bool true) rfl rfl R6.out Tryz.underlying32 rfl (by kernel_rfl)) rfl ?_
      exact ⟨m5, c5, l ++ [bv], u, A6, c6, T5, sf, by rw [H6.out.2], HE.out.ps, HE.out.L, HE.out.K⟩
  · go_simp
    have Bs := (Below.refl wd.heap.size wd).alloc (Nat.le_refl _) (.cells #[.int .u8 (aA : Int)] 5)
    have N5' := heap_alloc_new wd (.cells #[.int .u8 (aA : Int)] 5)
    first | (have H2' := Lib.hid (H2.out.kept Bs); clear H2; have H2 := H2'; clear H2') | skip
    have BW := Lib.hid (HBW.out.trans (Bs.mono HBW.out.size))
    obtain ⟨g5, hg5⟩ : ∃ k, k = wd.heap.size := ⟨_, rfl⟩
    rw [← hg5] at N5'
    have H5 := Lib.hid N5'
    clear N5' HBW Bs hHeld
    have HBW := BW
    clear BW
    generalize wd.alloc (.cells #[.int .u8 (aA : Int)] 5) = wd at *
    simp only [← hg5]
    clear hg5
    refine hK.out _ _ ((HBW.out.block _ (Array.getElem?_eq_some_iff.1 HB5.out.r5).1).trans HB5.out.r5) (fun hHeld => ?_)
    clear hK K
    try simp only [Act.put, List.setIfInBounds_toArray, List.set_cons_zero, List.set_cons_succ]
    skip
    refine wpAnyH_ready (rs := [1]) (by kernel_rfl) (by simp) ?_
    refine AllReadyH.cons (o := ⟨some 49, .load 30 (.tmp 48), 30, "law.go:76", #[⟨0, .data⟩], none⟩) rfl (fun K hK => ?_) AllReadyH.nil
    have y0 := (cells3 (HB5.out.low HBW.out).r4).1
    go_simp
    clear y0
    refine hK.out _ _ (hHeld) (fun hHeld => ?_)
    clear hK K
    try simp only [Act.put, List.setIfInBounds_toArray, List.set_cons_zero, List.set_cons_succ]
    skip
    refine wpAnyH_ready (rs := [2]) (by kernel_rfl) (by simp) ?_
    refine AllReadyH.cons (o := ⟨some 50, .call ⟨.builtin .append, #[.const (.slice none 0 0), .tmp 49], #[30, 30]⟩, 30, "law.go:76", #[⟨1, .data⟩], none⟩) rfl (fun K hK => ?_) AllReadyH.nil
    obtain ⟨v2, w2', hrun, O2, G2⟩ := apo wd w5.heap.size (.slice none 0 0) [] l A n cp (Own.nil _ _) (HB5.out.low HBW.out).L.rd HN.out.1 (HB5.out.low HBW.out).L.1 (by have := HB5.out.ps.P.len; simp at this ⊢; omega) HBW.out.size
    refine Lib.wp_append_run _ (.const (.slice none 0 0)) (.tmp 49) 30 30 rfl _ _ rfl rfl _ _ hrun ?_
    have Bs : Below wd.heap.size wd w2' := (Below.refl _ _).grown G2 (Nat.le_refl _) (fun k hk => by cases hk)
    first | (have H5' := Lib.hid ((Bs.block g5 (Array.getElem?_eq_some_iff.1 H5.out).1).trans H5.out); clear H5; have H5 := H5'; clear H5') | skip
    have BW := Lib.hid (HBW.out.trans (Bs.mono HBW.out.size))
    have O2' : Own w2' w5.heap.size v2 l := O2
    have H2 := Lib.hid O2'
    clear O2 O2' G2 hrun Bs HBW hHeld
    have HBW := BW
    clear BW
    generalize w2' = wd at *
    refine hK.out _ _ ((HBW.out.block _ (Array.getElem?_eq_some_iff.1 HB5.out.r5).1).trans HB5.out.r5) (fun hHeld => ?_)
    clear hK K
    try simp only [Act.put, List.setIfInBounds_toArray, List.set_cons_zero, List.set_cons_succ]
    skip
    refine wpAnyH_ready (rs := [6]) (by kernel_rfl) (by simp) ?_
    refine AllReadyH.cons (o := ⟨some 54, .call ⟨.builtin .append, #[.tmp 50, .tmp 53], #[30, 30]⟩, 30, "law.go:76", #[⟨2, .data⟩, ⟨5, .data⟩, ⟨2, .chain⟩], none⟩) rfl (fun K hK => ?_) AllReadyH.nil
    obtain ⟨v6, w6, hrun, O6, G6⟩ := apo wd w5.heap.size v2 l [bv] (some ⟨g5, 0, none⟩) 1 1 H2.out (rd_one H5.out HK8.out.2.2.2) rfl (fun h => by cases h) (by have := HB5.out.ps.P.len; simp at this ⊢; omega) HBW.out.size
    refine Lib.wp_append_run _ (.tmp 50) (.tmp 53) 30 30 rfl _ _ rfl rfl _ _ hrun ?_
    have BW := Lib.hid (HBW.out.grown G6 HBW.out.size (fun k hk => (H2.out.lt k hk).1))
    obtain ⟨A6, c6, hv6, -, -, -⟩ := O6.form
    obtain ⟨n1, hn1⟩ : ∃ x, x = (l ++ [bv]).length := ⟨_, rfl⟩
    rw [← hn1] at hv6
    subst hv6
    have H6 := Lib.hid (And.intro O6 hn1)
    clear hrun O6 G6 hn1 HBW H2 H5 hHeld
    have HBW := BW
    clear BW
    refine hK.out _ _ ((HBW.out.block _ (Array.getElem?_eq_some_iff.1 HB5.out.r5).1).trans HB5.out.r5) (fun hHeld => ?_)
    clear hK K
    try simp only [Act.put, List.setIfInBounds_toArray, List.set_cons_zero, List.set_cons_succ]
    skip
    refine wpAnyH_take (i := 7) (oi := ⟨some 55, .fieldAddr 32 (.tmp 4) 0, 0, "law.go:76", #[⟨0, .phase⟩, ⟨1, .phase⟩, ⟨2, .phase⟩, ⟨3, .phase⟩, ⟨4, .phase⟩, ⟨5, .phase⟩, ⟨6, .phase⟩], none⟩) (v := .pointer (some ⟨b, 0, none⟩)) rfl (by kernel_rfl) (by kernel_rfl) (by kernel_rfl) (fun _ _ _ h => h) (Or.inl ⟨by rfl, fun w hSw => by go_simp⟩) (by assumption) ?_
    try simp only [Act.put, List.setIfInBounds_toArray, List.set_cons_zero, List.set_cons_succ]
    refine wpAnyH_ready (rs := [8]) (by kernel_rfl) (by simp) ?_
    refine AllReadyH.cons (o := ⟨none, .store 30 (.tmp 55) (.tmp 54), 0, "law.go:76", #[⟨7, .data⟩, ⟨6, .data⟩, ⟨6, .chain⟩, ⟨0, .phase⟩, ⟨1, .phase⟩, ⟨2, .phase⟩, ⟨3, .phase⟩, ⟨4, .phase⟩, ⟨5, .phase⟩, ⟨6, .phase⟩], none⟩) rfl (fun K hK => ?_) AllReadyH.nil
    obtain ⟨y0, y1, y2, yf⟩ := cells3 (HB5.out.low HBW.out).r4
    go_simp
    clear y0 y1 y2 yf
    have G8 := Shf.grown_set w6 b 0 (.slice A6 n1 c6)
    have HB8' := (HB5.out.low HBW.out).at4 G8 (heap_setCell_same w6 b 0 _ 32 _ (HB5.out.low HBW.out).r4)
    rw [show (#[.slice A n cp, .int .i64 (u : Int), .int .i64 sf] : Array Value).setIfInBounds 0 (.slice A6 n1 c6) = #[.slice A6 n1 c6, .int .i64 (u : Int), .int .i64 sf] from rfl] at HB8'
    have L8 := (pat_own H6.out.1 (fun i hi => rep_old HB5.out.ps.R hi) H6.out.2).grown G8 (notTy (HB5.out.low HBW.out).r4 (by decide))
    have HB8 := Lib.hid (HB8'.list L8)
    clear HB8' L8 G8 hHeld
    generalize w6.setCell ⟨b, 0, none⟩ (.slice A6 n1 c6) = w8 at *
    refine hK.out _ _ (HB8.out.r5) (fun hHeld => ?_)
    clear hK K
    try simp only [Act.put, List.setIfInBounds_toArray, List.set_cons_zero, List.set_cons_succ]
    skip
    refine wpAnyH_done (by kernel_rfl) ?_ _
    try unfold NoPanic
    go_upto_region 25 with (fail)
    obtain ⟨a0, a1, a2⟩ := actC HB8.out.r5
    obtain ⟨y0, y1, y2, yf⟩ := cells3 HB8.out.r4
    obtain ⟨z0, z1, z2, zf⟩ := cells3 HB8.out.r6
    have G6 := Lib.hid (set3_grown w8 (b + 1 + 1) (.slice A6 n1 c6) (.int .i64 (u : Int)) (.int .i64 sf))
    have R6 := Lib.hid (put32 HB8.out.r6 (.slice A6 n1 c6) (.int .i64 (u : Int)) (.int .i64 sf))
    go_wp2
    have HE := Lib.hid (HB8.out.at6 G6.out R6.out)
    refine bodyPost_ret (results_ct rfl _ _ (b + 1 + 1) 32 _ (0, 0) _ (.bool true) rfl rfl R6.out Tryz.underlying32 rfl (by kernel_rfl)) rfl ?_
    exact ⟨m5, c5, l ++ [bv], u, A6, c6, T5, sf, by rw [H6.out.2], HE.out.ps, HE.out.L, HE.out.K⟩
end Go.Proofs.YtdbhgkbmbbjpdaaGreatDoor.Chr
namespace Go.Proofs.YtdbhgkbmbbjpdaaGreatDoor.Chr
open Go.ChangeShapes Go.WideShapes Go.ChangeAt Go.RowKit
open Shf (S str)
open Coin (Rd Row Own sz coin got Pur takeV endV CoinSaid)
open Frm (pack err size kind cnt body noItem itemV OneSaid)
set_option maxRecDepth 8000
set_option linter.unusedVariables false
open Shf (Tag Ext Rep M RdN get Fine)
structure ActD where
  K : Nat
  N : Nat
  C : Nat
instance : Inhabited ActD := ⟨⟨0, 0, 0⟩⟩
structure ActAt (w : World) (b o : Nat) (d : ActD) : Prop where
  k : w.cell? ⟨b, o, none⟩ = some (.int .u8 (d.K : Int))
  n : w.cell? ⟨b, o + 1, none⟩ = some (.int .u8 (d.N : Int))
  c : w.cell? ⟨b, o + 2, none⟩ = some (.int .u8 (d.C : Int))
  hK : d.K < 256
  hN : d.N < 256
  hC : d.C < 256
def IsActs (w : World) (a : Option Addr) (len cap : Nat) (ds : List ActD) : Prop :=
  len = ds.length ∧ len ≤ cap ∧ cap ≤ maxLen ∧ ∀ k (hk : k < ds.length), ∃ b o, a = some ⟨b, o, none⟩ ∧ b < w.heap.size ∧ ActAt w b (o + k * 3) ds[k]
theorem addr_zero' (b o i : Nat) : (⟨b, o, none⟩ : Addr).add i = ⟨b, o + i, none⟩ := by
  unfold Addr.add
  split
  · rename_i h; subst h; rfl
  · rfl
theorem three_of {α : Type} (cs : List α) (h : cs.length = 3) : ∃ v0 v1 v2, cs = [v0, v1, v2] := by
  rcases cs with _ | ⟨v0, _ | ⟨v1, _ | ⟨v2, _ | ⟨v3, cs⟩⟩⟩⟩
  · simp at h
  · simp at h
  · simp at h
  · exact ⟨v0, v1, v2, rfl⟩
  · simp at h
theorem cells36 : Tryz.prog.cellsOf 36 = 3 := by kernel_rfl
theorem act_of {H : Type} {enc : TypeId × Value → H} {w : World} {base n b o : Nat} {cs : List Value} {x : DataW H × List MemPlace} (h : DataW.trod enc Tryz.prog w base (fun _ => true) true n 36 cs = some x)
    (hcell : ∀ j, j < 3 → w.cell? ⟨b, o + j, none⟩ = cs[j]?) (hs : ∃ fs, Tryz.prog.underlying 36 = some (.struct fs) ∧ fs.size = 3 ∧ ∀ i, i < 3 → ∃ f, fs[i]? = some f ∧ f.offset = i ∧ Tryz.prog.cellsOf f.type = 1 ∧ f.type = if i = 2 then 5 else 5) : ∃ d : ActD, ActAt w b o d := by
  obtain ⟨fs, hu, hsz, hf⟩ := hs
  obtain ⟨xs, n', _, _, hlen, hxl, hfld⟩ := DataW.trod_struct hu h
  have hl5 : cs.length = 3 := hlen.trans cells36
  obtain ⟨v0, v1, v2, rfl⟩ := three_of cs hl5
  have g : ∀ i (hi : i < 3), ∃ y, DataW.trod enc Tryz.prog w base (fun _ => true) true n' (if i = 2 then 5 else 5) (([v0, v1, v2].drop i).take 1) = some y := fun i hi => by
    obtain ⟨f, h1, h2, h3, h4⟩ := hf i hi
    have := hfld i f h1
    rw [h2, h3, h4] at this
    exact ⟨_, this.trans (List.getElem?_eq_getElem (by omega))⟩
  obtain ⟨y0, g0⟩ := g 0 (by decide)
  obtain ⟨y1, g1⟩ := g 1 (by decide)
  obtain ⟨y2, g2⟩ := g 2 (by decide)
  obtain ⟨K, e0, _, w0⟩ := DataW.trod_int (t := 5) Tryz.underlying5 g0
  obtain ⟨N, e1, _, w1⟩ := DataW.trod_int (t := 5) Tryz.underlying5 g1
  obtain ⟨C, e2, _, w2⟩ := DataW.trod_int (t := 5) Tryz.underlying5 g2
  have f0 : v0 = .int .u8 K := by simpa using e0
  have f1 : v1 = .int .u8 N := by simpa using e1
  have f2 : v2 = .int .u8 C := by simpa using e2
  subst f0 f1 f2
  have b0 := bounds_u8 w0
  have b1 := bounds_u8 w1
  have b2 := bounds_u8 w2
  obtain ⟨K, rfl⟩ := Int.eq_ofNat_of_zero_le b0.1
  obtain ⟨N, rfl⟩ := Int.eq_ofNat_of_zero_le b1.1
  obtain ⟨C, rfl⟩ := Int.eq_ofNat_of_zero_le b2.1
  exact ⟨⟨K, N, C⟩, hcell 0 (by decide), hcell 1 (by decide), hcell 2 (by decide), (by show K < 256; omega), (by show N < 256; omega), (by show C < 256; omega)⟩
theorem struct36 : ∃ fs, Tryz.prog.underlying 36 = some (.struct fs) ∧ fs.size = 3 ∧ ∀ i, i < 3 → ∃ f, fs[i]? = some f ∧ f.offset = i ∧ Tryz.prog.cellsOf f.type = 1 ∧ f.type = if i = 2 then 5 else 5 := by
  refine ⟨_, Tryz.underlying36, rfl, fun i hi => ?_⟩
  have h : i = 0 ∨ i = 1 ∨ i = 2 := by omega
  rcases h with rfl | rfl | rfl
  all_goals exact ⟨_, rfl, rfl, by kernel_rfl, rfl⟩
theorem acts_of {H : Type} {enc : TypeId × Value → H} {w : World} {base fuel : Nat} {cs : List Value} {x : DataW H × List MemPlace} (h : DataW.trod enc Tryz.prog w base (fun _ => true) true fuel 22 cs = some x) :
    ∃ a len cap ds, cs = [.slice a len cap] ∧ IsActs w a len cap ds := by
  rcases Go.Deep.open_slice Tryz.underlying22 h with ⟨rfl, _⟩ | ⟨a, len, cap, m, n, D, Pl, rfl, _, hl, hm, hmm, _, hel⟩
  · exact ⟨none, 0, 0, [], rfl, rfl, Nat.le_refl _, Nat.zero_le _, fun k hk => (by simp at hk)⟩
  have hC := cells36
  generalize Tryz.prog.cellsOf 36 = c at hel hC
  subst hC
  have hmc : m = cap := by simpa using hmm
  subst hmc
  have he : ∀ i, i < len → ∃ d : ActD, ∃ b o, a = ⟨b, o, none⟩ ∧ b < w.heap.size ∧ ActAt w b (o + i * 3) d := fun i hi => by
    have hsp : a.spot = none := by
      obtain ⟨cs', h1, _⟩ := hel 0 (by omega)
      obtain ⟨_, h5, hc⟩ := World.cells?_some h1
      have h0 := hc 0 (by decide)
      rw [List.getElem?_eq_getElem (show 0 < cs'.length by omega)] at h0
      have e0 : ∀ a : Addr, a.add 0 = a := fun a => by unfold Addr.add; rw [if_pos rfl]
      have e : (a.add (0 * 3)).add 0 = a := by rw [Nat.zero_mul, e0, e0]
      have := World.cell?_spot h0
      rw [e] at this
      exact this
    obtain ⟨cs', h1, h2⟩ := hel i (by omega)
    obtain ⟨_, h5, hc⟩ := World.cells?_some h1
    have h0 := hc 0 (by decide)
    obtain ⟨b, o, sp⟩ := a
    have hsp : sp = none := hsp
    subst hsp
    rw [List.getElem?_eq_getElem (show 0 < cs'.length by omega)] at h0
    have hb := block_lt_of_cell h0
    rw [addr_zero', addr_zero'] at hb
    obtain ⟨d, hd⟩ := act_of (b := b) (o := o + i * 3) h2 (fun j hj => by have := hc j hj; rwa [addr_zero', addr_zero'] at this) struct36
    exact ⟨d, b, o, rfl, hb, hd⟩
  obtain ⟨F, hF⟩ := Go.Deep.choose_lt he
  refine ⟨some a, len, m, (List.range len).map F, rfl, by simp, hl, hm, fun k hk => ?_⟩
  have hk' : k < len := by simpa using hk
  obtain ⟨b, o, e, hb, hA⟩ := hF k hk'
  have e2 : ((List.range len).map F)[k] = F k := by simp
  rw [e2]
  exact ⟨b, o, by rw [e], hb, hA⟩
theorem IsActs.at' {w wr : World} {a : Option Addr} {len cap : Nat} {ds : List ActD} (h : IsActs w a len cap ds) (hb : Below w.heap.size w wr) (k : Nat) (hk : k < len) :
    ∃ d : ActD, ∃ b o, a = some ⟨b, o, none⟩ ∧ ActAt wr b (o + k * 3) d := by
  obtain ⟨hl, _, _, hc⟩ := h
  obtain ⟨b, o, e, hlt, hA⟩ := hc k (by omega)
  exact ⟨ds[k], b, o, e, (hb.cell (p := ⟨b, _, none⟩) hlt).trans hA.k, (hb.cell (p := ⟨b, _, none⟩) hlt).trans hA.n, (hb.cell (p := ⟨b, _, none⟩) hlt).trans hA.c, hA.hK, hA.hN, hA.hC⟩
variable {lo : Nat}
theorem do_any (w : World) (T : Nat → Tag) (p q : Nat) (m : M) (c : CD) (l : S) (u k : Nat) (H : PS lo w T p q m c l u k) (hk60 : k < 60) (A : Option Addr) (cp : Nat) (L : PAt w T A cp l) (sf : Int) (aK aA aB : Nat) (ha8 : aA < 256) :
    Calls Tryz.prog 12 #[.pointer (some ⟨p, 0, none⟩), .agg #[.slice A l.length cp, .int .i64 (u : Int), .int .i64 sf], .agg #[.int .u8 (aK : Int), .int .u8 (aA : Int), .int .u8 (aB : Int)]] w (DoSaid lo w T p q k) := by
  by_cases h6 : aK % 10 < 6
  · exact do_app w T p q m c l u k H hk60 A cp L sf aK aA aB _ rfl ha8 h6
  by_cases h8 : aK % 10 < 8
  · exact do_sync w T p q m c l u k H hk60 A cp L sf aK aA aB _ rfl (by omega) h8
  by_cases h9 : aK % 10 = 8
  · by_cases n1 : u + aA % 6 ≤ u
    · exact do_arg1 w T p q m c l u k H hk60 A cp L sf aK aA aB _ rfl _ rfl ha8 h9 n1
    · by_cases n2 : u + aA % 6 ≤ l.length
      · exact do_fold w T p q m c l u k H hk60 A cp L sf aK aA aB _ rfl _ rfl ha8 h9 (by omega) n2
      · exact do_arg2 w T p q m c l u k H hk60 A cp L sf aK aA aB _ rfl _ rfl ha8 h9 (by omega) (by omega)
  · exact do_none w T p q m c l u k H hk60 A cp L sf aK aA aB _ rfl (by omega)
theorem CG.most9 {c : CD} {m : M} (h : CG c m) (mo : Nat) : CG {c with most := mo} m := ⟨h.on, h.ages, h.good, h.mv, h.idx, h.ba, h.b0, h.vo, h.sy, h.nos, h.fi, h.f0, h.up, h.only, h.nf⟩
theorem PS.opened {w w' : World} {T T' : Nat → Tag} {p p' q : Nat} {m : M} {c : CD} {l : S} {u k : Nat} (h : PS lo w T p q m c l u k) (mo : Nat) (R : Rep w' T' q m) (C : CAt lo w' T' p' q {c with most := mo}) : PS lo w' T' p' q m {c with most := mo} l u k :=
  ⟨R, C, h.G.most9 mo, h.P.most mo, h.len, h.hB, h.room, h.sum, h.done⟩
theorem PS.cz {w : World} {T : Nat → Tag} {p q : Nat} {m : M} {c : CD} {l : S} {u k : Nat} (h : PS lo w T p q m c l u k) (hk : k ≤ 60) : CZ c m := by
  have hl := h.P.len
  have hU := h.P.hU
  have hle := h.P.le
  have hno := h.P.no
  have hd := h.done
  refine ⟨by omega, fun d hd => by have := h.P.sz d hd; omega, ?_, by omega, nms_mono (h.G.nms (h.cn hk)) (by omega), by rw [h.room]; decide⟩
  by_cases h0 : u = 0
  · rw [h.G.b0 (h.P.b0.2 h0)]; simp
  · rw [h.P.bs h0]; have := base_len u (by omega); omega
structure Pw (w wr : World) (T : Nat → Tag) (p q bM : Nat) (m : M) (c : CD) (l : S) (u k : Nat) (A : Option Addr) (cp : Nat) (sf : Int) : Prop where
  ps : PS w.heap.size wr T p q m c l u k
  L : PAt wr T A cp l
  K : Kq w.heap.size w (fun _ => .none) wr T
  row : wr.heap[bM]? = some (.cells #[.slice A l.length cp, .int .i64 (u : Int), .int .i64 sf] 32 (0, 0))
  t : T bM = .none
  lb : w.heap.size ≤ bM
theorem Pw.below {w wr wr' : World} {T : Nat → Tag} {p q bM : Nat} {m : M} {c : CD} {l : S} {u k : Nat} {A : Option Addr} {cp : Nat} {sf : Int} (h : Pw w wr T p q bM m c l u k A cp sf) (B : Below wr.heap.size wr wr') : Pw w wr' T p q bM m c l u k A cp sf :=
  ⟨h.ps.below B, h.L.below B, h.K.trans (kq_kp (kp_below B T)), (B.block _ (Array.getElem?_eq_some_iff.1 h.row).1).trans h.row, h.t, h.lb⟩
structure Px (w wr : World) (T : Nat → Tag) (p q bM : Nat) (m : M) (c : CD) (l : S) (u k : Nat) (A : Option Addr) (cp : Nat) (cur : Array Value) : Prop where
  ps : PS w.heap.size wr T p q m c l u k
  L : PAt wr T A cp l
  K : Kq w.heap.size w (fun _ => .none) wr T
  row : wr.heap[bM]? = some (.cells cur 32 (0, 0))
  t : T bM = .none
  lb : w.heap.size ≤ bM
theorem Pw.did {w wr wr' : World} {T T' : Nat → Tag} {p q bM : Nat} {m m' : M} {c c' : CD} {l l' : S} {u u' k : Nat} {A A' : Option Addr} {cp cp' : Nat} {sf : Int} (h : Pw w wr T p q bM m c l u k A cp sf) (P : PS w.heap.size wr' T' p q m' c' l' u' (k + 1)) (L : PAt wr' T' A' cp' l') (X : Kq w.heap.size wr T wr' T') :
    Px w wr' T' p q bM m' c' l' u' (k + 1) A' cp' #[.slice A l.length cp, .int .i64 (u : Int), .int .i64 sf] :=
  ⟨P, L, h.K.trans X, (X.block _ (Array.getElem?_eq_some_iff.1 h.row).1 h.t (notTy h.row (by decide)) (notTy h.row (by decide)) (notTy h.row (by decide))).trans h.row, X.tag _ (Array.getElem?_eq_some_iff.1 h.row).1 h.t, h.lb⟩
theorem Px.set {w wr wr' : World} {T : Nat → Tag} {p q bM : Nat} {m : M} {c : CD} {l : S} {u k : Nat} {A : Option Addr} {cp : Nat} {cur : Array Value} (h : Px w wr T p q bM m c l u k A cp cur) (sf : Int) (G : wr.grownBy wr' (some bM)) (r : wr'.heap[bM]? = some (.cells #[.slice A l.length cp, .int .i64 (u : Int), .int .i64 sf] 32 (0, 0))) : Pw w wr' T p q bM m c l u k A cp sf :=
  ⟨h.ps.box G h.row h.t, h.L.grown G (notTy h.row (by decide)), h.K.box G h.lb, r, h.t, h.lb⟩
theorem Pw.opened {w wr wr' : World} {T T' : Nat → Tag} {p p' q bM : Nat} {m : M} {c : CD} {l : S} {u k : Nat} {A : Option Addr} {cp : Nat} {sf : Int} (h : Pw w wr T p q bM m c l u k A cp sf) (mo : Nat) (R : Rep wr' T' q m) (C : CAt w.heap.size wr' T' p' q {c with most := mo}) (X : Kq w.heap.size wr T wr' T') : Pw w wr' T' p' q bM m {c with most := mo} l u k A cp sf :=
  ⟨h.ps.opened mo R C, h.L.kq X, h.K.trans X, (X.block _ (Array.getElem?_eq_some_iff.1 h.row).1 h.t (notTy h.row (by decide)) (notTy h.row (by decide)) (notTy h.row (by decide))).trans h.row, X.tag _ (Array.getElem?_eq_some_iff.1 h.row).1 h.t, h.lb⟩
theorem pw0 {w w3 : World} {T : Nat → Tag} {p q : Nat} {m : M} {mo : Nat} (K : Kq w.heap.size w (fun _ => .none) w3 T) (R : Rep w3 T q m) (C : CAt w.heap.size w3 T p q ⟨mo, 1, 0, 0, [], [], false⟩) (cg : CG ⟨mo, 1, 0, 0, [], [], false⟩ m) (rm : m.room = 1048576) (sm : m.named + m.gone ≤ 500) (dn : m.done ≤ 100) :
    Pw w (w3.alloc (.cells #[.slice none 0 0, .int .i64 0, .int .i64 0] 32)) T p q w3.heap.size m ⟨mo, 1, 0, 0, [], [], false⟩ [] 0 0 none 0 0 := by
  have B : Below w3.heap.size w3 (w3.alloc (.cells #[.slice none 0 0, .int .i64 0, .int .i64 0] 32)) := (Below.refl _ _).alloc (Nat.le_refl _) _
  exact ⟨⟨R.below B, C.keep (kp_below B T), cg, pi_new mo, Nat.le_refl _, Nat.zero_le _, rm, by omega, by omega⟩, ⟨fun _ => rfl, Nat.le_refl _, fun h0 => by simp at h0⟩, K.trans (kq_kp (kp_below B T)), heap_alloc_new w3 _, rep_old R (Nat.le_refl _), K.size⟩
end Go.Proofs.YtdbhgkbmbbjpdaaGreatDoor.Chr
namespace Go.Proofs.YtdbhgkbmbbjpdaaGreatDoor.Chr
open Go.ChangeShapes Go.WideShapes Go.ChangeAt Go.RowKit
open Shf (S str)
open Coin (Rd Row Own sz coin got Pur takeV endV CoinSaid)
open Frm (pack err size kind cnt body noItem itemV OneSaid)
set_option maxRecDepth 8000
set_option linter.unusedVariables false
open Shf (Tag Ext Rep M RdN get Fine)
set_option maxHeartbeats 4000000 in
theorem plays_any (w : World) (mo : Nat) (hmo : mo < 256) (a : Option Addr) (len cap : Nat) (ds : List ActD) (hz : IsActs w a len cap ds) :
    Calls Tryz.prog 3 #[.int .u8 (mo : Int), .slice a len cap] w fun e w' => e = .returned (.bool true) ∧ Below w.heap.size w w' := by
  have HZ := Lib.hid hz
  clear hz
  by_cases hbig : 60 < len
  · have hd : decide ((60 : Int) < (len : Int)) = true := by simp; omega
    go_enter Tryz.func3, Tryz.ntmps3
    go_wp2_with fail
    refine (awake_any _).mono ?_
    rintro e wa ⟨rfl, hb⟩
    go_wp2_with (go_at_call 9; (with_reducible refine (awake_any _).mono ?_); rintro e w' ⟨rfl, hb2⟩)
    go_ret
    exact ⟨rfl, hb.trans (hb2.mono hb.size)⟩
  have hd : decide ((60 : Int) < (len : Int)) = false := by simp; omega
  have HL := Lib.hid hbig
  obtain ⟨mo2, hm2⟩ : ∃ m, m = 20 + mo := ⟨_, rfl⟩
  have hm3 : (20 : Int) + (mo : Int) = (mo2 : Int) := by omega
  have hw4 : IntKind.i64.wrap (mo : Int) = mo := by rw [IntKind.wrap_i64]; omega
  have hw5 : IntKind.i64.wrap (mo2 : Int) = mo2 := by rw [IntKind.wrap_i64]; omega
  clear hm2 hmo
  go_enter Tryz.func3, Tryz.ntmps3
  go_upto_region 3 with (go_at_call 9; (with_reducible refine (awake_any _).mono ?_); (rintro e w1 ⟨rfl, B1⟩; have HB1 := Lib.hid B1; clear B1))
  have c10 := Shf.new_rep w1 1048576 (by decide)
  go_upto_region 4 with (go_at_call 10; (with_reducible refine c10.mono ?_); (rintro e w2 ⟨q, T, rfl, R1, B1, hT1⟩; have H1 := Lib.hid (And.intro R1 (kq_new (lo := w.heap.size) (HB1.out.trans (B1.mono HB1.out.size)) (fun k hk => Nat.le_trans HB1.out.size (hT1 k hk)))); clear R1 B1 hT1 c10))
  have c11 : Calls Tryz.prog 11 #[.pointer (some ⟨q, 0, none⟩), .int .i64 (mo2 : Int)] w2 _ := first_any (lo := w.heap.size) w2 T q (Shf.M.new 1048576) mo2 H1.out.1 (new_on _) rfl rfl rfl (by show ((0 : Int) + 0 + 50) ≤ 1048576; decide) (by have : (Shf.M.new 1048576).done = 0 := rfl; omega) H1.out.2.size
  go_upto_region 5 with (go_at_call 11; (with_reducible refine c11.mono ?_); (rintro e w3 ⟨p, m2, T2, rfl, g2, R2, C2, K2, hp2, r2, s2, d2, n2⟩; have H2 := Lib.hid (pw0 (H1.out.2.trans K2) R2 C2 g2 (r2.trans rfl) (by have : (Shf.M.new 1048576).named = 0 := rfl; omega) (by have : (Shf.M.new 1048576).done = 0 := rfl; omega)); clear g2 R2 C2 K2 hp2 r2 s2 d2 n2 c11))
  go_upto_region 6 with (fail)
  generalize w3.alloc _ = wa at *
  generalize w3.heap.size = bM at *
  clear hm3 hw4 hw5 hd hbig H1
  go_wp2
  go_loopw [6, 9] (fun v6 v9 wr => ∃ j p : Nat, v6 = .pointer (some ⟨p, 0, none⟩) ∧ j ≤ len ∧ v9 = .int .i64 (j : Int) ∧ Hid (∃ m c l u A cp sf T, Pw w wr T p q bM m c l u j A cp sf)) (fun _ v9 _ => len - (intOf v9).toNat)
  case atStart => exact ⟨0, p, rfl, Nat.zero_le _, rfl, Lib.hid ⟨_, _, _, _, _, _, _, _, H2.out⟩⟩
  case round =>
    clear H2
    obtain ⟨j, p, rfl, hj, rfl, HL0⟩ := hrel
    obtain ⟨m, c, l, u, A, cp, sf, T, hP⟩ := HL0.out
    have HP := Lib.hid hP
    clear HL0 hP
    by_cases hlt : j < len
    · obtain ⟨d, ab, ao, hae, hA⟩ := HZ.out.at' (Below.refl _ _) j hlt
      subst hae
      obtain ⟨aK, aA, aB⟩ := d
      have HAC : Hid (∀ y, Below w.heap.size w y → y.cell? ⟨ab, ao + j * 3, none⟩ = some (.int .u8 (aK : Int)) ∧ y.cell? ⟨ab, ao + j * 3 + 1, none⟩ = some (.int .u8 (aA : Int)) ∧ y.cell? ⟨ab, ao + j * 3 + 2, none⟩ = some (.int .u8 (aB : Int))) := fun y hy => by
        have hlt := block_lt_of_cell hA.k
        have k0 : w.cell? ⟨ab, ao + j * 3, none⟩ = some (.int .u8 (aK : Int)) := hA.k
        have k1 : w.cell? ⟨ab, ao + j * 3 + 1, none⟩ = some (.int .u8 (aA : Int)) := hA.n
        have k2 : w.cell? ⟨ab, ao + j * 3 + 2, none⟩ = some (.int .u8 (aB : Int)) := hA.c
        exact ⟨(hy.cell (p := ⟨ab, _, none⟩) hlt).trans k0, (hy.cell (p := ⟨ab, ao + j * 3 + 1, none⟩) hlt).trans k1, (hy.cell (p := ⟨ab, ao + j * 3 + 2, none⟩) hlt).trans k2⟩
      have HA8 : Hid (aA < 256) := Lib.hid hA.hN
      clear hA
      have hjr : (j : Int) < (len : Int) := by omega
      have hjl : j < len := hlt
      have HJ : Hid (j < 60) := Lib.hid (by have := HL.out; omega)
      have HLT := Lib.hid hlt
      clear hlt hj
      go_upto_region 10 with (fail)
      have HBW := Lib.hid ((Below.refl wr.heap.size wr).drew)
      refine wp_region_noPanic ?_
      refine wp_region_held_drew (S := fun y : World => Below w.heap.size w y) (by kernel_rfl) (below_kq HP.out.K).drew (fun hHeld => ?_)
      generalize wr.drew = wd at *
      refine wpAnyH_take (i := 0) (oi := ⟨some 38, .move (.tmp 6), 26, "law.go:111", #[], none⟩) (v := .pointer (some ⟨p, 0, none⟩)) rfl (by kernel_rfl) (by kernel_rfl) (by kernel_rfl) (fun _ _ _ h => h) (Or.inl ⟨by rfl, fun w hSw => by go_simp⟩) (by assumption) ?_
      try simp only [Act.put, List.setIfInBounds_toArray, List.set_cons_zero, List.set_cons_succ]
      refine wpAnyH_take (i := 2) (oi := ⟨some 40, .move (.tmp 1), 22, "law.go:111", #[], none⟩) (v := .slice (some ⟨ab, ao, none⟩) len cap) rfl (by kernel_rfl) (by kernel_rfl) (by kernel_rfl) (fun _ _ _ h => h) (Or.inl ⟨by rfl, fun w hSw => by go_simp⟩) (by assumption) ?_
      try simp only [Act.put, List.setIfInBounds_toArray, List.set_cons_zero, List.set_cons_succ]
      refine wpAnyH_take (i := 3) (oi := ⟨some 41, .move (.tmp 9), 3, "law.go:111", #[], none⟩) (v := .int .i64 (j : Int)) rfl (by kernel_rfl) (by kernel_rfl) (by kernel_rfl) (fun _ _ _ h => h) (Or.inl ⟨by rfl, fun w hSw => by go_simp⟩) (by assumption) ?_
      try simp only [Act.put, List.setIfInBounds_toArray, List.set_cons_zero, List.set_cons_succ]
      refine wpAnyH_take (i := 4) (oi := ⟨some 42, .indexAddr 22 (.tmp 40) (.tmp 41), 0, "law.go:111", #[⟨2, .data⟩, ⟨3, .data⟩], none⟩) (v := .pointer (some ⟨ab, ao + j * 3, none⟩)) rfl (by kernel_rfl) (by kernel_rfl) (by kernel_rfl) (fun _ _ _ h => h) (Or.inl ⟨by rfl, fun w hSw => by go_simp⟩) (by assumption) ?_
      try simp only [Act.put, List.setIfInBounds_toArray, List.set_cons_zero, List.set_cons_succ]
      refine wpAnyH_take (i := 5) (oi := ⟨some 43, .load 36 (.tmp 42), 36, "law.go:111", #[⟨4, .data⟩], none⟩) (v := .agg #[.int .u8 (aK : Int), .int .u8 (aA : Int), .int .u8 (aB : Int)]) rfl (by kernel_rfl) (by kernel_rfl) (by kernel_rfl) (fun _ _ _ h => h) (Or.inl ⟨by rfl, fun w hSw => by obtain ⟨s0, s1, s2⟩ := HAC.out _ hSw; go_simp⟩) (by assumption) ?_
      try simp only [Act.put, List.setIfInBounds_toArray, List.set_cons_zero, List.set_cons_succ]
      refine wpAnyH_ready (rs := [1]) (by kernel_rfl) (by simp) ?_
      refine AllReadyH.cons (o := ⟨some 39, .load 32 (.tmp 8), 32, "law.go:111", #[], none⟩) rfl (fun K hK => ?_) AllReadyH.nil
      obtain ⟨y0, y1, y2, -⟩ := cells3 (HP.out.below HBW.out).row
      go_simp
      clear y0 y1 y2
      refine hK.out _ _ (hHeld) (fun hHeld => ?_)
      clear hK K
      try simp only [Act.put, List.setIfInBounds_toArray, List.set_cons_zero, List.set_cons_succ]
      skip
      refine wpAnyH_ready (rs := [6]) (by kernel_rfl) (by simp) ?_
      refine AllReadyH.cons (o := ⟨some 44, .call ⟨.value (.func 12), #[.tmp 38, .tmp 39, .tmp 43], #[26, 32, 36]⟩, 33, "law.go:111", #[⟨0, .data⟩, ⟨1, .data⟩, ⟨5, .data⟩], none⟩) rfl (fun K hK => ?_) AllReadyH.nil
      have c12 := do_any (lo := w.heap.size) wd T p q m c l u j (HP.out.below HBW.out).ps (by have := HJ.out; omega) A cp (HP.out.below HBW.out).L sf aK aA aB HA8.out
      go_simp
      refine c12.mono ?_
      rintro e w5 ⟨m5, c5, l5, u5, A5, cp5, T5, sf5, rfl, P5, L5, K5⟩
      have HX := Lib.hid ((HP.out.below HBW.out).did P5 L5 K5)
      obtain ⟨n5, hn5⟩ : ∃ n, n = l5.length := ⟨_, rfl⟩
      have HN5 := Lib.hid hn5
      rw [← hn5]
      clear c12 P5 L5 K5 hn5
      refine hK.out _ _ ((below_kq HX.out.K)) (fun hHeld => ?_)
      clear hK K
      try simp only [Act.put, List.setIfInBounds_toArray, List.set_cons_zero, List.set_cons_succ]
      skip
      refine wpAnyH_take (i := 7) (oi := ⟨some 37, .move (.tmp 44), 33, "law.go:111", #[⟨6, .data⟩], none⟩) (v := .tuple #[.agg #[.slice A5 n5 cp5, .int .i64 (u5 : Int), .int .i64 sf5], .bool true]) rfl (by kernel_rfl) (by kernel_rfl) (by kernel_rfl) (fun _ _ _ h => h) (Or.inl ⟨by rfl, fun w hSw => by go_simp⟩) (by assumption) ?_
      try simp only [Act.put, List.setIfInBounds_toArray, List.set_cons_zero, List.set_cons_succ]
      refine wpAnyH_take (i := 8) (oi := ⟨some 45, .extract (.tmp 37) 0, 32, "law.go:111", #[⟨7, .data⟩], none⟩) (v := .agg #[.slice A5 n5 cp5, .int .i64 (u5 : Int), .int .i64 sf5]) rfl (by kernel_rfl) (by kernel_rfl) (by kernel_rfl) (fun _ _ _ h => h) (Or.inl ⟨by rfl, fun w hSw => by go_simp⟩) (by assumption) ?_
      try simp only [Act.put, List.setIfInBounds_toArray, List.set_cons_zero, List.set_cons_succ]
      refine wpAnyH_take (i := 9) (oi := ⟨some 46, .extract (.tmp 37) 1, 4, "law.go:111", #[⟨7, .data⟩, ⟨10, .gcOnly .lateStores⟩], none⟩) (v := .bool true) rfl (by kernel_rfl) (by kernel_rfl) (by kernel_rfl) (fun _ _ _ h => h) (Or.inl ⟨by rfl, fun w hSw => by go_simp⟩) (by assumption) ?_
      try simp only [Act.put, List.setIfInBounds_toArray, List.set_cons_zero, List.set_cons_succ]
      refine wpAnyH_ready (rs := [10]) (by kernel_rfl) (by simp) ?_
      refine AllReadyH.cons (o := ⟨none, .store 32 (.tmp 8) (.tmp 45), 0, "law.go:111", #[⟨8, .data⟩, ⟨6, .chain⟩, ⟨0, .phase⟩, ⟨1, .phase⟩, ⟨2, .phase⟩, ⟨3, .phase⟩, ⟨4, .phase⟩, ⟨5, .phase⟩, ⟨6, .phase⟩, ⟨7, .phase⟩, ⟨8, .phase⟩, ⟨9, .textOnly .lateStores⟩], none⟩) rfl (fun K hK => ?_) AllReadyH.nil
      obtain ⟨y0, y1, y2, yf⟩ := cells3 HX.out.row
      go_simp
      clear y0 y1 y2 yf
      have G8 := set3_grown w5 bM (.slice A5 n5 cp5) (.int .i64 (u5 : Int)) (.int .i64 sf5)
      have R8 := put32 HX.out.row (.slice A5 n5 cp5) (.int .i64 (u5 : Int)) (.int .i64 sf5)
      have HP8 := Lib.hid (HX.out.set sf5 G8 (by rw [← HN5.out]; exact R8))
      clear G8 R8 HX hHeld
      generalize ((w5.setCell ⟨bM, 0, none⟩ (.slice A5 n5 cp5)).setCell ⟨bM, 1, none⟩ (.int .i64 (u5 : Int))).setCell ⟨bM, 2, none⟩ (.int .i64 sf5) = w8 at *
      refine hK.out _ _ ((below_kq HP8.out.K)) (fun hHeld => ?_)
      clear hK K
      try simp only [Act.put, List.setIfInBounds_toArray, List.set_cons_zero, List.set_cons_succ]
      skip
      refine wpAnyH_take (i := 11) (oi := ⟨some 10, .assign (.tmp 46), 4, "law.go:111", #[⟨9, .data⟩, ⟨10, .chain⟩, ⟨0, .phase⟩, ⟨1, .phase⟩, ⟨2, .phase⟩, ⟨3, .phase⟩, ⟨4, .phase⟩, ⟨5, .phase⟩, ⟨6, .phase⟩, ⟨7, .phase⟩, ⟨8, .phase⟩, ⟨9, .phase⟩, ⟨10, .phase⟩], none⟩) (v := .bool true) rfl (by kernel_rfl) (by kernel_rfl) (by kernel_rfl) (fun _ _ _ h => h) (Or.inl ⟨by rfl, fun w hSw => by go_simp⟩) (by assumption) ?_
      try simp only [Act.put, List.setIfInBounds_toArray, List.set_cons_zero, List.set_cons_succ]
      refine wpAnyH_done (by kernel_rfl) ?_ _
      try unfold NoPanic
      clear hHeld HP HBW
      obtain ⟨kk, hkk⟩ : ∃ k, k = aK % 10 := ⟨_, rfl⟩
      have h0 : (aK : Int).tmod 10 = (kk : Int) := by rw [hkk, Int.tmod_eq_emod_of_nonneg (by omega)]; omega
      obtain ⟨s0, s1, s2⟩ := HAC.out w8 (below_kq HP8.out.K)
      by_cases h9 : kk = 9
      · subst h9
        obtain ⟨mo2, hm2⟩ : ∃ m, m = 20 + aA := ⟨_, rfl⟩
        have hm3 : (20 : Int) + (aA : Int) = (mo2 : Int) := by omega
        have hw4 : IntKind.i64.wrap (aA : Int) = aA := by rw [IntKind.wrap_i64]; have := HA8.out; omega
        have hw5 : IntKind.i64.wrap (mo2 : Int) = mo2 := by rw [IntKind.wrap_i64]; have := HA8.out; omega
        have c11 : Calls Tryz.prog 11 #[.pointer (some ⟨q, 0, none⟩), .int .i64 (mo2 : Int)] w8 _ := open_cg (lo := w.heap.size) w8 T5 q m5 c5 mo2 HP8.out.ps.R HP8.out.ps.G (HP8.out.ps.cn (by have := HJ.out; omega)) (HP8.out.ps.cz (by have := HJ.out; omega)) HP8.out.K.size
        clear hm2 hkk
        go_upto_region 16 with (go_at_call 11; (with_reducible refine c11.mono ?_); (rintro e w9 ⟨p9, T9, rfl, R9, C9, K9, -⟩; have HP9 := Lib.hid (HP8.out.opened mo2 R9 C9 K9); clear R9 C9 K9 c11 s0 s1 s2 HP8))
        clear h0 hm3 hw4 hw5
        have c13 := told_any w9 T9 p9 q m5 _ HP9.out.ps.C (fun b hb => rep_old HP9.out.ps.R hb) HP9.out.ps.G l5 u5 HP9.out.ps.P A5 n5 cp5 HN5.out HP9.out.L.rd sf5
        obtain ⟨y0, y1, y2, -⟩ := cells3 HP9.out.row
        rw [← HN5.out] at y0
        have hw1 : IntKind.i64.wrap ((j : Int) + 1) = ((j + 1 : Nat) : Int) := by rw [IntKind.wrap_i64]; have := HJ.out; omega
        go_wp2_with (first | (go_at_call 13; (with_reducible refine c13.mono ?_); (rintro e w10 ⟨rfl, B10⟩; have c14 := full_c w10 T9 p9 q _ (HP9.out.ps.C.keep (kp_below B10 T9)); rw [HP9.out.ps.G.nf] at c14; have HP10 := Lib.hid (HP9.out.below B10); clear B10 c13 y0 y1 y2)) | (go_at_call 14; (with_reducible refine c14.mono ?_); (rintro e w11 ⟨rfl, e11⟩; subst e11; clear c14)))
        go_roundw
        case rel => exact ⟨j + 1, _, rfl, by have := HLT.out; omega, by first | rfl | go_num, Lib.hid ⟨_, _, _, _, _, _, _, _, HP10.out⟩⟩
        case measure => have := HLT.out; simp [intOf]; omega
      · have hk9 : ¬ (kk : Int) = 9 := by omega
        clear hkk
        go_upto_region 16 with (fail)
        clear h0 hk9 h9 s0 s1 s2
        have c13 := told_any w8 T5 p q m5 c5 HP8.out.ps.C (fun b hb => rep_old HP8.out.ps.R hb) HP8.out.ps.G l5 u5 HP8.out.ps.P A5 n5 cp5 HN5.out HP8.out.L.rd sf5
        obtain ⟨y0, y1, y2, -⟩ := cells3 HP8.out.row
        rw [← HN5.out] at y0
        have hw1 : IntKind.i64.wrap ((j : Int) + 1) = ((j + 1 : Nat) : Int) := by rw [IntKind.wrap_i64]; have := HJ.out; omega
        go_wp2_with (first | (go_at_call 13; (with_reducible refine c13.mono ?_); (rintro e w10 ⟨rfl, B10⟩; have c14 := full_c w10 T5 p q _ (HP8.out.ps.C.keep (kp_below B10 T5)); rw [HP8.out.ps.G.nf] at c14; have HP10 := Lib.hid (HP8.out.below B10); clear B10 c13 y0 y1 y2)) | (go_at_call 14; (with_reducible refine c14.mono ?_); (rintro e w11 ⟨rfl, e11⟩; subst e11; clear c14)))
        go_roundw
        case rel => exact ⟨j + 1, _, rfl, by have := HLT.out; omega, by first | rfl | go_num, Lib.hid ⟨_, _, _, _, _, _, _, _, HP10.out⟩⟩
        case measure => have := HLT.out; simp [intOf]; omega
    · have hjr : ¬ (j : Int) < (len : Int) := by omega
      have hjl : ¬ j < len := hlt
      go_wp2
      go_ret
      exact ⟨rfl, below_kq HP.out.K⟩
end Go.Proofs.YtdbhgkbmbbjpdaaGreatDoor.Chr
