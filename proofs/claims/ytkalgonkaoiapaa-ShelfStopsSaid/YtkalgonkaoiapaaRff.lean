/- The document's own shelf: what a shelf is; names made safe. -/
import Derived.Test.YtkalgonkaoiapaaRfe
namespace Go.Proofs.Ytkalgonkaoiapaa.Shf
open Go.ChangeShapes Go.WideShapes Go.ChangeAt Go.RowKit

/-- A slice of bytes. -/
def RBy (w : World) (T : Nat → Tag) (v : Value) (p : S) : Prop := RSl w T v 1 p.length (p.map b8)
inductive All2 {α β : Type} (R : α → β → Prop) : List α → List β → Prop
  | nil : All2 R [] []
  | cons {a b l m} : R a b → All2 R l m → All2 R (a :: l) (b :: m)
theorem All2.mono {α β : Type} {R R' : α → β → Prop} {l : List α} {m : List β} (h : All2 R l m) (k : ∀ a b, R a b → R' a b) : All2 R' l m := by
  induction h with
  | nil => exact .nil
  | cons h _ ih => exact .cons (k _ _ h) ih
theorem All2.len {α β : Type} {R : α → β → Prop} {l : List α} {m : List β} (h : All2 R l m) : l.length = m.length := by
  induction h with
  | nil => rfl
  | cons _ _ ih => simp [ih]
theorem All2.app {α β : Type} {R : α → β → Prop} {l : List α} {m : List β} {a : α} {b : β} (h : All2 R l m) (k : R a b) : All2 R (l ++ [a]) (m ++ [b]) := by
  induction h with
  | nil => exact .cons k .nil
  | cons h _ ih => exact .cons h ih
theorem All2.at {α β : Type} {R : α → β → Prop} {l : List α} {m : List β} (h : All2 R l m) : ∀ (k : Nat) (h1 : k < l.length) (h2 : k < m.length), R l[k] m[k] := by
  induction h with
  | nil => intro k h1; simp at h1
  | cons h _ ih =>
    intro k h1 h2
    cases k with
    | zero => exact h
    | succ k => exact ih k (by simpa using h1) (by simpa using h2)
theorem All2.left {α β : Type} {R : α → β → Prop} {l : List α} {m : List β} (h : All2 R l m) {P : α → Prop} (k : ∀ a b, R a b → P a) : ∀ a ∈ l, P a := by
  induction h with
  | nil => intro a ha; simp at ha
  | cons h _ ih =>
    intro a ha
    rcases List.mem_cons.1 ha with rfl | ha
    · exact k _ _ h
    · exact ih a ha
theorem All2.set {α β : Type} {R : α → β → Prop} {l : List α} {m : List β} {a : α} {b : β} (h : All2 R l m) (k : R a b) (i : Nat) : All2 R (l.set i a) (m.set i b) := by
  induction h generalizing i with
  | nil => exact .nil
  | cons h t ih =>
    cases i with
    | zero => exact .cons k t
    | succ i => exact .cons h (ih i)
/-- The document's own shelf, as data. -/
structure X where
  L : List (S × Int)
  now : List (S × Nat)
  was : List (List (S × Nat))
  room : Int
  left : Int
  off : Bool
  done : Int
structure RX (w : World) (T : Nat → Tag) (v : Value) (x : X) (lv nv wv : Value) (fs : List (Value × Int)) (ws : List Value) : Prop where
  eq : v = RfV lv nv wv x.room x.left x.off x.done
  fl : RSl w T lv 2 fs.length (fs.flatMap filP)
  by_ : All2 (fun p q => RBy w T p.1 q.1 ∧ p.2 = q.2) fs x.L
  nm : RNm w T nv x.now
  wa : RSl w T wv 1 ws.length ws
  ol : All2 (RNm w T) ws x.was
def RXE (w : World) (T : Nat → Tag) (v : Value) (x : X) : Prop := ∃ lv nv wv fs ws, RX w T v x lv nv wv fs ws
theorem RBy.keep {w w' : World} {T T' : Nat → Tag} {v : Value} {p : S} (h : RBy w T v p) (K : Keep w T w' T') : RBy w' T' v p := RSl.keep h K
theorem RX.keep {w w' : World} {T T' : Nat → Tag} {v : Value} {x : X} {lv nv wv : Value} {fs : List (Value × Int)} {ws : List Value} (h : RX w T v x lv nv wv fs ws) (K : Keep w T w' T') : RX w' T' v x lv nv wv fs ws :=
  ⟨h.eq, h.fl.keep K, h.by_.mono fun _ _ r => ⟨r.1.keep K, r.2⟩, h.nm.keep K, h.wa.keep K, h.ol.mono fun _ _ r => r.keep K⟩
theorem RNm.isSl {w : World} {T : Nat → Tag} {v : Value} {l : List (S × Nat)} (h : RNm w T v l) : Shf.isSl v := h.sl.sl
/-- It fits: what is counted is small. -/
structure X.Fits (x : X) : Prop where
  done : 0 ≤ x.done ∧ x.done < 1000000000
  left : -1 ≤ x.left ∧ x.left ≤ 1000
  now : x.now.length ≤ 1000000
  was : x.was.length ≤ 1000000
  fl : x.L.length ≤ 1000000
def X.stop (x : X) : Prop := x.off = true ∨ x.left = 0
instance (x : X) : Decidable x.stop := by unfold X.stop; infer_instance
def X.act (x : X) : X := if x.stop then { x with off := true } else { x with left := (if 0 < x.left then x.left - 1 else x.left), done := x.done + 1 }
theorem kept2 {w w1 : World} {Y Z : Obj} (B : Below ((w.alloc Y).alloc Z).heap.size ((w.alloc Y).alloc Z) w1) : w1.heap[w.heap.size]? = some Y ∧ w1.heap[w.heap.size + 1]? = some Z ∧ Below w.heap.size w w1 :=
  ⟨(B.block _ (by simp; omega)).trans (heap_alloc2_old w Y Z), (B.block _ (by simp)).trans (heap_alloc2_new w Y Z), (below2 w Y Z).trans (B.mono (by simp; omega))⟩
theorem own_one (w : World) (x : Value) (e : TypeId) : (w.alloc (.cells #[x] e)).ownsRow w.heap.size e 1 (.slice (some ⟨w.heap.size, 0, none⟩) 1 1) 1 [x] :=
  ⟨rfl, Or.inr ⟨w.heap.size, 1, #[x], rfl, Nat.le_refl _, heap_alloc_new w _, Nat.le_refl _, by decide, rfl, rfl⟩⟩
/-- A whole shelf stored. -/
theorem wpList_put35 {ops : Array Oper} {rest : List Oper} {o : Oper} {a : Act} {w : World} {Q : Exit → Act → World → Prop} (hgd : o.guard = none) (x y : Operand) (ho : o.op = .store 35 x y)
    (g : Nat) (hx : a.eval x = .pointer (some ⟨g, 0, none⟩)) {x0 x1 x2 x3 x4 x5 x6 : Value} (hg : w.heap[g]? = some (.cells #[x0, x1, x2, x3, x4, x5, x6] 35))
    {A1 A2 A3 : Option Addr} {n1 c1 n2 c2 n3 c3 : Nat} {r l : Int} {f : Bool} {d : Int} (hy : a.eval y = .agg #[.slice A1 n1 c1, .slice A2 n2 c2, .slice A3 n3 c3, .int .i64 r, .int .i64 l, .bool f, .int .i64 d])
    (h : ∀ w', w'.heap[g]? = some (.cells #[.slice A1 n1 c1, .slice A2 n2 c2, .slice A3 n3 c3, .int .i64 r, .int .i64 l, .bool f, .int .i64 d] 35) → w.grownBy w' (some g) → wpList Try.prog ops Q rest (a.put o.dst undef) w') :
    wpList Try.prog ops Q (o :: rest) a w := by
  refine wpList_store_row hgd 35 x y ho g _ hx hy 35 _ hg info35 rfl (by simp [Value.oneCell']) ?_
  refine h _ (setRow_heap w g _ _ 35 _ hg) ⟨rfl, rfl, rfl, by simp, fun k _ hne => setRow_other w g k _ (fun e => hne (by rw [e]))⟩
set_option maxRecDepth 4000 in
theorem xnames_any (w : World) (T : Nat → Tag) (v : Value) (x : X) (h : RXE w T v x) (F : x.Fits) (hT : ∀ b, T b ≠ .none → b < w.heap.size) :
    Calls Try.prog 40 #[v] w fun e w' =>
      ∃ v', e = .returned (.tuple #[v', .int .i64 (if x.stop then 7 else 0)]) ∧ RXE w' T v' (if x.stop then x.act else { x.act with was := [x.now] }) ∧ Below w.heap.size w w' := by
  obtain ⟨lv, nv, wv, fs, ws, R⟩ := h
  have c55 := fun W => xact_any W lv nv wv x.room x.left x.off x.done R.fl.sl R.nm.isSl R.wa.sl F.done F.left
  have HR := Lib.hid R
  have HT := Lib.hid (fun b (hb : w.heap.size ≤ b) => show T b = .none by
    cases e : T b with
    | none => rfl
    | _ => exact absurd (hT b (by rw [e]; intro h; cases h)) (by omega))
  obtain ⟨A1, n1, c1, e1⟩ := R.fl.sl
  obtain ⟨A2, n2, c2, e2⟩ := R.nm.isSl
  obtain ⟨A3, n3, c3, e3⟩ := R.wa.sl
  rw [R.eq]
  clear R hT F
  subst e1 e2 e3
  obtain ⟨L, now, was, room, left, off, done⟩ := x
  simp only at c55 ⊢
  unfold RfV at c55 ⊢
  by_cases hs : off = true ∨ left = 0
  · have hs' : (X.mk L now was room left off done).stop := hs
    rw [if_pos hs', if_pos hs']
    have HA : Hid ((X.mk L now was room left off done).act = ⟨L, now, was, room, left, true, done⟩) := if_pos hs'
    rw [HA.out]
    rw [if_pos hs, decide_eq_true hs] at c55
    clear hs hs' HA
    go_enter Try.func40, Try.ntmps40
    go_wp2_with (first
      | (go_at_call 55; (with_reducible refine (c55 _).mono ?_); rintro e w1 ⟨rfl, B1⟩; obtain ⟨D1, D2, D3⟩ := kept2 B1; have HD := Lib.hid (And.intro D1 (And.intro D2 D3)); clear B1 D1 D2 D3 c55)
      | (refine wpList_put35 rfl _ _ rfl w.heap.size rfl HD.out.1 rfl ?_; intro w2 E1 G2; have E2 := (G2.block (w.heap.size + 1) (Array.getElem?_eq_some_iff.1 HD.out.2.1).1 (by simp)).trans HD.out.2.1; have HE := Lib.hid (And.intro E1 (And.intro E2 (HD.out.2.2.grown G2 HD.out.2.2.size (fun k h => by cases h; exact Nat.le_refl _)))); obtain ⟨p0, p1, p2, p3, p4, p5, p6, pf⟩ := row7 E1; clear E1 E2 G2 pf)
      | (refine wpList_put35 rfl _ _ rfl (w.heap.size + 1) rfl HE.out.2.1 rfl ?_; intro w3 E3 G3; have HH := Lib.hid (And.intro E3 (HE.out.2.2.grown G3 HE.out.2.2.size (fun k h => by cases h; omega))); clear E3 G3 p0 p1 p2 p3 p4 p5 p6)
      | go_in)
    (try simp only [Exit.inBlock, Exit.then])
    refine bodyPost_ret (res35_tmp rfl _ _ (w.heap.size + 1) 35 _ (0, 0) rfl HH.out.1 rfl) rfl ?_
    exact ⟨_, rfl, ⟨_, _, _, fs, ws, { HR.out.keep (Shf.Below.keep HH.out.2 T) with eq := rfl }⟩, HH.out.2⟩
  · have hs' : ¬ (X.mk L now was room left off done).stop := hs
    rw [if_neg hs', if_neg hs']
    have HA : Hid ((X.mk L now was room left off done).act = ⟨L, now, was, room, (if 0 < left then left - 1 else left), off, done + 1⟩) := if_neg hs'
    rw [HA.out]
    rw [if_neg hs, decide_eq_false hs] at c55
    generalize (if 0 < left then left - 1 else left) = left' at *
    generalize done + 1 = done' at *
    clear hs hs' HA
    go_enter Try.func40, Try.ntmps40
    go_wp2_with (first
      | (go_at_call 55; (with_reducible refine (c55 _).mono ?_); rintro e w1 ⟨rfl, B1⟩; obtain ⟨D1, D2, D3⟩ := kept2 B1; have HD := Lib.hid (And.intro D1 (And.intro D2 D3)); clear B1 D1 D2 D3 c55)
      | (refine wpList_put35 rfl _ _ rfl w.heap.size rfl HD.out.1 rfl ?_; intro w2 E1 G2; have E2 := (G2.block (w.heap.size + 1) (Array.getElem?_eq_some_iff.1 HD.out.2.1).1 (by simp)).trans HD.out.2.1; have HE := Lib.hid (And.intro E1 (And.intro E2 (HD.out.2.2.grown G2 HD.out.2.2.size (fun k h => by cases h; exact Nat.le_refl _)))); obtain ⟨p0, p1, p2, p3, p4, p5, p6, pf⟩ := row7 E1; have l1 := (Array.getElem?_eq_some_iff.1 E1).1; have l2 := (Array.getElem?_eq_some_iff.1 E2).1; have l3 : ¬ w.heap.size = w2.heap.size := (by omega); have l4 : ¬ w2.heap.size = w.heap.size := (by omega); clear E1 E2 G2)
      | (refine wpList_put35 (x0 := .slice none 0 0) (x1 := .slice none 0 0) (x2 := .slice none 0 0) (x3 := .int .i64 0) (x4 := .int .i64 0) (x5 := .bool false) (x6 := .int .i64 0) rfl _ _ rfl (w.heap.size + 1) rfl ((heap_alloc_old (w2.setCell ⟨w.heap.size, 2, none⟩ (.slice (some ⟨w2.heap.size, 0, none⟩) 1 1)) _ (by simpa using l2)).trans ((Below.heap_setCell w2 ⟨w.heap.size, 2, none⟩ (.slice (some ⟨w2.heap.size, 0, none⟩) 1 1) (w.heap.size + 1) (by simp)).trans HE.out.2.1)) rfl ?_; intro w3 E3 G3; have HH := Lib.hid (And.intro E3 G3); clear E3 G3 p0 p1 p2 p3 p4 p5 p6)
      | go_in)
    (try simp only [Exit.inBlock, Exit.then])
    refine bodyPost_ret (res35_tmp rfl _ _ (w.heap.size + 1) 35 _ (0, 0) rfl HH.out.1 rfl) rfl ?_
    have B3 : Below w.heap.size w w3 := ((HE.out.2.2.setCell (Nat.le_refl _) _).alloc (by simp; omega) _).grown HH.out.2 (by simp; omega) (fun k h => by cases h; omega)
    have e0 : (w2.setCell ⟨w.heap.size, 2, none⟩ (.slice (some ⟨w2.heap.size, 0, none⟩) 1 1)).heap.size = w2.heap.size := by simp
    have b0 : w3.heap[w2.heap.size]? = some (.cells #[.slice A2 n2 c2] 32) := by
      rw [HH.out.2.block _ (by simp) (by simp; omega)]
      have h := heap_alloc_new (w2.setCell ⟨w.heap.size, 2, none⟩ (.slice (some ⟨w2.heap.size, 0, none⟩) 1 1)) (.cells #[.slice A2 n2 c2] 32)
      rwa [e0] at h
    have R3 := HR.out.keep (Shf.Below.keep B3 T)
    refine ⟨_, rfl, ⟨_, _, _, fs, [.slice A2 n2 c2], { R3 with eq := rfl, wa := ?_, ol := .cons R3.nm .nil }⟩, B3⟩
    refine ⟨_, 1, rfl, Nat.le_refl _, (fun h => by cases h), rfl, fun _ => ⟨w2.heap.size, rfl, (Array.getElem?_eq_some_iff.1 b0).1, HT.out _ (by omega), fun j u hj => ?_⟩⟩
    rw [cell_of_row w3 _ j _ 32 (0, 0) b0]
    simpa using hj
end Go.Proofs.Ytkalgonkaoiapaa.Shf
