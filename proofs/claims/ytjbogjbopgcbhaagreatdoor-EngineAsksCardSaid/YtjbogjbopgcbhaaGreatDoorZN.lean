/- A law's router: what is chosen of what two tell at first. A law's router: what is told of one prefix alone, step by step (pure). A law's router: a packet of one update; Select (calls). -/
import Derived.Test.YtjbogjbopgcbhaaGreatDoorZM
namespace Go.Proofs.YtjbogjbopgcbhaaGreatDoor.Eg
open Pre Ser Rts
open Go.Proofs.YtjbogjbopgcbhaaGreatDoor.Src (row1 row2 Mk SrcAt)
open Go.Proofs.YtjbogjbopgcbhaaGreatDoor.Lk (LkAt)
open Go.ChangeShapes Go.WideShapes Go.ChangeAt Go.RowKit
set_option maxRecDepth 8000
set_option linter.unusedVariables false
set_option linter.unusedSimpArgs false

open Go.Proofs.YtjbogjbopgcbhaaGreatDoor.Src (pv mv pA pN)
set_option linter.unusedSimpArgs false
theorem feas0 (a n : Nat) (m : Nat × Nat) : f0.feas a n m = true := by
  unfold Mk.feas f0
  simp
/-- What is chosen of what two tell at first. -/
theorem sel0 {a b : Nat} {e : Eng} (h : Met a b e) (hf : e.f = f0) {p s x y : Nat} (hL : e.L = one (pA p) (pN p) 1 s x 2 ++ one (pA p) (pN p) 2 s y 2) (hx : x ≤ 65535) (hy : y ≤ 65535) :
    selP e.cf e.f e.L (pA p) (pN p) = if x + max a 1 < 65535 then (if y + max b 1 < x + max a 1 then some ⟨pA p, pN p, 2, y + max b 1, s⟩ else some ⟨pA p, pN p, 1, x + max a 1, s⟩) else (if y + max b 1 < 65535 then some ⟨pA p, pN p, 2, y + max b 1, s⟩ else none) := by
  rw [hL, hf, selP_two hx hy, h.cf1, h.cf2]
  simp only [feas0, or_true, and_true]
theorem one_right {p b s m now : Nat} : ∀ x ∈ one (pA p) (pN p) b s m now, Pre.right x.a x.n = true ∧ ∃ p, x.a = pA p ∧ x.n = pN p := fun x hx => by
  unfold one at hx
  split at hx
  · cases hx
  · rw [List.mem_singleton] at hx
    subst hx
    exact ⟨Src.p_right p, p, rfl, rfl⟩
theorem one_len (a n b s m now : Nat) : (one a n b s m now).length ≤ 1 := by
  unfold one
  split
  · exact Nat.zero_le 1
  · exact Nat.le_refl 1
theorem upd_p {a b : Nat} {e : Eng} (h : Met a b e) {k now p s m : Nat} : e.upd k now (uP (pA p) (pN p) s m) = { e with L := tellL e.L k now (uP (pA p) (pN p) s m) } := by
  unfold Eng.upd
  rw [if_neg (by rw [show (uP (pA p) (pN p) s m).a = pA p from rfl, show (uP (pA p) (pN p) s m).l = pN p from rfl, h.p_own]; decide)]
theorem priced_any (w : World) (a : Nat) (ha : a < 65536) : Calls Tryz.prog 20 #[.int .u16 (a : Int)] w fun en w' => en = .returned (.int .i64 ((max a 1 : Nat) : Int)) ∧ w = w' := by
  have hw : IntKind.i64.wrap (a : Int) = (a : Int) := by rw [IntKind.wrap_i64]; omega
  by_cases h : a = 0
  · subst h
    go_enter Tryz.func20, Tryz.ntmps20
    go_wp2
    go_ret
    exact ⟨rfl, rfl⟩
  · have h1 : ((a : Int) == 0) = false := by simp; omega
    have h2 : max a 1 = a := by omega
    rw [h2]
    clear h h2
    go_enter Tryz.func20, Tryz.ntmps20
    go_wp2
    go_ret
    exact ⟨rfl, rfl⟩
/-- A route in a box of its own. -/
theorem box5 {w0 W : World} (hb : Below w0.heap.size w0 W) (y0 y1 y2 y3 y4 : Value) : ((((((W.alloc (.cells #[.int .u32 0, .int .u8 0, .int .i64 0, .int .u16 0, .int .u16 0] 40)).setCell ⟨W.heap.size, 0, none⟩ y0).setCell ⟨W.heap.size, 1, none⟩ y1).setCell ⟨W.heap.size, 2, none⟩ y2).setCell ⟨W.heap.size, 3, none⟩ y3).setCell ⟨W.heap.size, 4, none⟩ y4).heap[W.heap.size]? = some (.cells #[y0, y1, y2, y3, y4] 40 (0, 0)) ∧ Below w0.heap.size w0 ((((((W.alloc (.cells #[.int .u32 0, .int .u8 0, .int .i64 0, .int .u16 0, .int .u16 0] 40)).setCell ⟨W.heap.size, 0, none⟩ y0).setCell ⟨W.heap.size, 1, none⟩ y1).setCell ⟨W.heap.size, 2, none⟩ y2).setCell ⟨W.heap.size, 3, none⟩ y3).setCell ⟨W.heap.size, 4, none⟩ y4) := by
  have B := hb.alloc hb.size (.cells #[.int .u32 0, .int .u8 0, .int .i64 0, .int .u16 0, .int .u16 0] 40)
  have h := heap_alloc_new W (.cells #[.int .u32 0, .int .u8 0, .int .i64 0, .int .u16 0, .int .u16 0] 40)
  exact ⟨set5 h y0 y1 y2 y3 y4, B.grown (grown5 _ W.heap.size y0 y1 y2 y3 y4) B.size (fun k e => by have h1 : W.heap.size = k := Option.some.inj e; have := hb.size; omega)⟩
end Go.Proofs.YtjbogjbopgcbhaaGreatDoor.Eg
namespace Go.Proofs.YtjbogjbopgcbhaaGreatDoor.Eg
open Pre Ser Rts
open Go.Proofs.YtjbogjbopgcbhaaGreatDoor.Src (row1 row2 Mk SrcAt)
open Go.Proofs.YtjbogjbopgcbhaaGreatDoor.Lk (LkAt)
open Go.ChangeShapes Go.WideShapes Go.ChangeAt Go.RowKit
set_option maxRecDepth 8000
set_option linter.unusedVariables false
set_option linter.unusedSimpArgs false

open Go.Proofs.YtjbogjbopgcbhaaGreatDoor.Src (pv mv pA pN)
set_option linter.unusedSimpArgs false
theorem near_same (s m n : Nat) : nearer (s : Int) (m : Int) (s : Int) (n : Int) = decide (m < n) := by
  unfold nearer
  rw [newer_self]
  simp
theorem feas_same {f : Mk} {a n s k m : Nat} (h : f a n = some (s, k)) : f.feas a n (s, m) = (decide (m = 65535) || decide (m < k)) := by
  unfold Mk.feas
  rw [h]
  simp only [near_same]
theorem best_same {f : Mk} {a n s k m : Nat} (h : f a n = some (s, k)) : f.best a n (s, m) = (s, min m k) := by
  unfold Mk.best
  rw [h]
  simp only [near_same]
  by_cases hm : m < k
  · rw [if_pos (by simpa using hm), Nat.min_eq_left (Nat.le_of_lt hm)]
  · rw [if_neg (by simpa using hm), Nat.min_eq_right (Nat.le_of_not_lt hm)]
theorem best_none {f : Mk} {a n : Nat} {m : Nat × Nat} (h : f a n = none) : f.best a n m = m := by
  unfold Mk.best
  rw [h]
/-- What is known of one prefix. -/
structure St (a b p : Nat) (L : List E) (mk : Option (Nat × Nat)) (x y z : Nat) (e : Eng) : Prop where
  met : Met a b e
  L : e.L = L
  f : e.f (pA p) (pN p) = mk
  sz : Sz e x y z
theorem St.m0 (a b p : Nat) : St a b p [] none 0 0 0 (Eng.m0 a b) := ⟨m0_met a b, rfl, rfl, ⟨Nat.le_refl 0, Nat.le_refl 0, Nat.le_refl 0⟩⟩
theorem St.upd {a b p : Nat} {L : List E} {mk : Option (Nat × Nat)} {x y z : Nat} {e : Eng} (h : St a b p L mk x y z e) (k now s m : Nat) : St a b p (tellL L k now (uP (pA p) (pN p) s m)) mk x y z (e.upd k now (uP (pA p) (pN p) s m)) := by
  rw [upd_p h.met, h.L]
  exact ⟨h.met.up _, rfl, h.f, h.sz⟩
def AllP (p : Nat) (L : List E) : Prop := ∀ x ∈ L, x.a = pA p ∧ x.n = pN p
theorem AllP.one (p b s m now : Nat) : AllP p (one (pA p) (pN p) b s m now) := fun x hx => by
  unfold Eg.one at hx
  split at hx
  · cases hx
  · rw [List.mem_singleton] at hx
    subst hx
    exact ⟨rfl, rfl⟩
theorem AllP.two {p : Nat} {L L' : List E} (h : AllP p L) (h' : AllP p L') : AllP p (L ++ L') := fun x hx => (List.mem_append.1 hx).elim (h x) (h' x)
theorem St.sok {a b p : Nat} {L : List E} {mk : Option (Nat × Nat)} {x y z : Nat} {e : Eng} (h : St a b p L mk x y z e) (hp : AllP p L) (h1 : x + 1 + L.length ≤ 230) (h2 : y + z ≤ 800) : e.SelOk :=
  h.met.sok (fun u hu => by
    rw [h.L] at hu
    obtain ⟨e1, e2⟩ := hp u hu
    rw [e1, e2]
    exact ⟨Src.p_right p, p, rfl, rfl⟩) h.sz (by rw [h.L]; exact h1) h2
/-- The mark behind a way that is chosen. -/
def mkTo (f : Option (Nat × Nat)) (g : Nat × Nat → Nat × Nat) : Option Ro → Option (Nat × Nat)
  | some r => some (g (r.s, r.m))
  | none => f
theorem St.sel {a b p : Nat} {L : List E} {mk : Option (Nat × Nat)} {x y z : Nat} {e e' : Eng} {ts : List Ro} (h : St a b p L mk x y z e) (so : e.SelOk) (ok : e.Ok) (hs : Sel e e' ts) :
    look e'.ch (pA p) (pN p) = selP e.cf e.f L (pA p) (pN p) ∧ St a b p L (mkTo mk (e.f.best (pA p) (pN p)) (selP e.cf e.f L (pA p) (pN p))) (x + 1 + L.length) (y + z) (1 + L.length) e' ∧ look e'.ch 201326592 24 = some ⟨201326592, 24, 0, 0, 1⟩ ∧ e'.ch = ts := by
  obtain ⟨hc, ht⟩ := hs.chose ok so
  have hpl : pN p < 256 := by have := Src.pN_le p; omega
  have h1 := hc.other _ _ hpl (h.met.p_own p)
  rw [h.L] at h1
  refine ⟨h1, ⟨h.met.sel hc, by rw [hc.keep]; exact h.L, ?_, h.sz.sel hc (by rw [h.met.own]; exact Nat.le_refl 1) (by rw [h.L]; exact Nat.le_refl _)⟩, h.met.own_look hc, ht⟩
  rw [hc.mark _ _ hpl, h1, h.f]
  cases selP e.cf e.f L (pA p) (pN p) <;> rfl
theorem tell_less (a n s m u t now : Nat) (hy : t < 65536) (y : Nat) : tellL (one a n 1 s m u ++ one a n 2 t y now) 2 now (uP a n t 65535) = one a n 1 s m u := by
  have h2 : key a n 1 < key a n 2 := by unfold key; omega
  unfold tellL
  rw [if_pos (show (uP a n t 65535).m = 65535 from rfl), List.filter_append]
  have h3 : (one a n 1 s m u).filter (fun e => !(e.key == key a n 2)) = one a n 1 s m u := List.filter_eq_self.2 fun e he => by
    unfold one at he
    split at he
    · cases he
    · rw [List.mem_singleton] at he
      subst he
      show (!(key a n 1 == key a n 2)) = true
      simp; omega
  have h4 : (one a n 2 t y now).filter (fun e => !(e.key == key a n 2)) = [] := List.filter_eq_nil_iff.2 fun e he => by
    unfold one at he
    split at he
    · cases he
    · rw [List.mem_singleton] at he
      subst he
      show ¬ (!(key a n 2 == key a n 2)) = true
      simp
  show (one a n 1 s m u).filter (fun e => !(e.key == key a n 2)) ++ (one a n 2 t y now).filter (fun e => !(e.key == key a n 2)) = _
  rw [h3, h4, List.append_nil]
end Go.Proofs.YtjbogjbopgcbhaaGreatDoor.Eg
namespace Go.Proofs.YtjbogjbopgcbhaaGreatDoor.Eg
open Pre Ser Rts
open Go.Proofs.YtjbogjbopgcbhaaGreatDoor.Src (row1 row2 Mk SrcAt)
open Go.Proofs.YtjbogjbopgcbhaaGreatDoor.Lk (LkAt)
open Go.ChangeShapes Go.WideShapes Go.ChangeAt Go.RowKit
set_option maxRecDepth 8000
set_option linter.unusedVariables false
set_option linter.unusedSimpArgs false

open Go.Proofs.YtjbogjbopgcbhaaGreatDoor.Src (pv mv pA pN)
set_option linter.unusedSimpArgs false
theorem hear_up1 {w W : World} {q : Nat} {e : Eng} {K : Kept} {a b p : Nat} {L : List E} {mk : Option (Nat × Nat)} {x y z : Nat} (h : LW w W q e K) (st : St a b p L mk x y z e) {s m : Nat} (hs : s < 65536) (hm : m ≤ 65535) (hL : L.length ≤ 100) :
    Calls Tryz.prog 15 #[.pointer (some ⟨q, 0, none⟩), .agg #[.int .i64 1, .slice (some ⟨W.heap.size, 0, none⟩) 1 1], .int .i64 0, .int .u64 2] (W.alloc (.cells #[.int .u8 3, .int .u64 0, .int .i64 3, .int .u32 (pA p : Int), .int .u8 (pN p : Int), .int .u16 (s : Int), .int .u16 (m : Int)] 32)) fun en w' => en = .returned (.tuple #[]) ∧ ∃ e', LW w w' q e' K ∧ St a b p (tellL L 1 2 (uP (pA p) (pN p) s m)) mk x y z e' := by
  refine (hear_12 (h.add #[.int .u8 3, .int .u64 0, .int .i64 3, .int .u32 (pA p : Int), .int .u8 (pN p : Int), .int .u16 (s : Int), .int .u16 (m : Int)] 32) st.met (row_up W 3 (pA p) (pN p) s m) (uP_ok hs hm) rfl (by rw [st.L]; exact hL)).mono ?_
  rintro en w' ⟨rfl, hL'⟩
  exact ⟨rfl, _, hL', st.upd 1 2 s m⟩
theorem hear_up2 {w W : World} {q : Nat} {e : Eng} {K : Kept} {a b p : Nat} {L : List E} {mk : Option (Nat × Nat)} {x y z : Nat} (h : LW w W q e K) (st : St a b p L mk x y z e) {s m : Nat} (hs : s < 65536) (hm : m ≤ 65535) (hL : L.length ≤ 100) :
    Calls Tryz.prog 15 #[.pointer (some ⟨q, 0, none⟩), .agg #[.int .i64 2, .slice (some ⟨W.heap.size, 0, none⟩) 1 1], .int .i64 0, .int .u64 2] (W.alloc (.cells #[.int .u8 3, .int .u64 0, .int .i64 3, .int .u32 (pA p : Int), .int .u8 (pN p : Int), .int .u16 (s : Int), .int .u16 (m : Int)] 32)) fun en w' => en = .returned (.tuple #[]) ∧ ∃ e', LW w w' q e' K ∧ St a b p (tellL L 2 2 (uP (pA p) (pN p) s m)) mk x y z e' := by
  refine (hear_22 (h.add #[.int .u8 3, .int .u64 0, .int .i64 3, .int .u32 (pA p : Int), .int .u8 (pN p : Int), .int .u16 (s : Int), .int .u16 (m : Int)] 32) st.met (row_up W 3 (pA p) (pN p) s m) (uP_ok hs hm) rfl (by rw [st.L]; exact hL)).mono ?_
  rintro en w' ⟨rfl, hL'⟩
  exact ⟨rfl, _, hL', st.upd 2 2 s m⟩
theorem select_st {w W : World} {q : Nat} {e : Eng} {K : Kept} {a b p : Nat} {L : List E} {mk : Option (Nat × Nat)} {x y z : Nat} (h : LW w W q e K) (st : St a b p L mk x y z e) (hp : AllP p L) (h1 : x + 1 + L.length ≤ 230) (h2 : y + z ≤ 800) :
    Calls Tryz.prog 17 #[.pointer (some ⟨q, 0, none⟩)] W fun en w' => ∃ v' e', en = .returned v' ∧ LW w w' q e' K ∧ look e'.ch (pA p) (pN p) = selP e.cf e.f L (pA p) (pN p) ∧ St a b p L (mkTo mk (e.f.best (pA p) (pN p)) (selP e.cf e.f L (pA p) (pN p))) (x + 1 + L.length) (y + z) (1 + L.length) e' := by
  refine (select_lw h (st.sok hp h1 h2)).mono ?_
  rintro en w' ⟨v', e', ts, rfl, hS, hL, -⟩
  obtain ⟨k1, k2, -⟩ := st.sel (st.sok hp h1 h2) h.ok hS
  exact ⟨v', e', rfl, hL, k1, k2⟩
theorem feas_none {f : Mk} {a n : Nat} {m : Nat × Nat} (h : f a n = none) : f.feas a n m = true := by
  unfold Mk.feas
  rw [h]
  simp
theorem one_eq {a n b s m now : Nat} (hm : m ≠ 65535) : one a n b s m now = [⟨a, n, b, 3, s, m, now + 50⟩] := if_neg hm
theorem sw1 {p s m : Nat} {e : Eng} (st : St 96 96 p (one (pA p) (pN p) 1 s m 2) none 0 0 0 e) (hm : m ≤ 30000) : selP e.cf e.f (one (pA p) (pN p) 1 s m 2) (pA p) (pN p) = some ⟨pA p, pN p, 1, m + 96, s⟩ ∧ mkTo none (e.f.best (pA p) (pN p)) (selP e.cf e.f (one (pA p) (pN p) 1 s m 2) (pA p) (pN p)) = some (s, m + 96) := by
  have h1 : selP e.cf e.f (one (pA p) (pN p) 1 s m 2) (pA p) (pN p) = some ⟨pA p, pN p, 1, m + 96, s⟩ := by
    rw [selP_one (by omega), st.met.cf1, feas_none st.f]
    exact if_pos ⟨show m + max 96 1 < 65535 by omega, Or.inr rfl⟩
  refine ⟨h1, ?_⟩
  rw [h1]
  show some (e.f.best (pA p) (pN p) (s, m + 96)) = _
  rw [best_none st.f]
theorem sw2 {p s m n x y z : Nat} {e : Eng} (st : St 96 96 p (one (pA p) (pN p) 1 s m 2 ++ one (pA p) (pN p) 2 s n 2) (some (s, m + 96)) x y z e) (hm : m ≤ 30000) (hn : n ≤ m) : selP e.cf e.f (one (pA p) (pN p) 1 s m 2 ++ one (pA p) (pN p) 2 s n 2) (pA p) (pN p) = some (if n < m then ⟨pA p, pN p, 2, n + 96, s⟩ else ⟨pA p, pN p, 1, m + 96, s⟩) ∧ mkTo (some (s, m + 96)) (e.f.best (pA p) (pN p)) (selP e.cf e.f (one (pA p) (pN p) 1 s m 2 ++ one (pA p) (pN p) 2 s n 2) (pA p) (pN p)) = some (s, n + 96) := by
  have h1 : selP e.cf e.f (one (pA p) (pN p) 1 s m 2 ++ one (pA p) (pN p) 2 s n 2) (pA p) (pN p) = some (if n < m then ⟨pA p, pN p, 2, n + 96, s⟩ else ⟨pA p, pN p, 1, m + 96, s⟩) := by
    rw [selP_two (by omega) (by omega), st.met.cf1, st.met.cf2, feas_same st.f, feas_same st.f]
    rw [if_pos ⟨show m + max 96 1 < 65535 by omega, Or.inr (by simp)⟩]
    by_cases h : n < m
    · rw [if_pos h, if_pos ⟨by omega, Or.inr (by simp; omega)⟩]; rfl
    · rw [if_neg h, if_neg (by omega)]; rfl
  refine ⟨h1, ?_⟩
  rw [h1]
  by_cases h : n < m
  · rw [if_pos h]
    show some (e.f.best (pA p) (pN p) (s, n + 96)) = _
    rw [best_same st.f, Nat.min_eq_left (by omega)]
  · rw [if_neg h]
    show some (e.f.best (pA p) (pN p) (s, m + 96)) = _
    obtain rfl : m = n := by omega
    rw [best_same st.f, Nat.min_self]
theorem sw3 {p s m n x y z : Nat} {e : Eng} (st : St 96 96 p (one (pA p) (pN p) 1 s m 2) (some (s, n + 96)) x y z e) (hm : m ≤ 30000) (hn : n ≤ m) : selP e.cf e.f (one (pA p) (pN p) 1 s m 2) (pA p) (pN p) = if m < n + 96 then some ⟨pA p, pN p, 1, m + 96, s⟩ else none := by
  rw [selP_one (by omega), st.met.cf1, feas_same st.f]
  by_cases h : m < n + 96
  · rw [if_pos h, if_pos ⟨by omega, Or.inr (by simp; omega)⟩]; rfl
  · rw [if_neg h, if_neg (by simp; omega)]
end Go.Proofs.YtjbogjbopgcbhaaGreatDoor.Eg
