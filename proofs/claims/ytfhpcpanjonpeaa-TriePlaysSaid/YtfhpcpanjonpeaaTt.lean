/- Tries of routes, without Go: what is put, dropped, and found. -/
import Derived.Test.YtfhpcpanjonpeaaPg
namespace Go.Proofs.Ytfhpcpanjonpeaa.Tri
open Pre

structure R where
  a : Nat
  n : Nat
  via : Int
  mt : Int
  sq : Int
def R.Ok (r : R) : Prop := r.a < 4294967296 ∧ r.n ≤ 32 ∧ right r.a r.n = true
/-- Which way an address goes behind n bits. -/
def sd (b n : Nat) : Bool := decide (n < 32) && bit b n
theorem sd_bit {b n : Nat} (h : n < 32) : sd b n = bit b n := by simp [sd, h]
theorem rest_of {n : Nat} (h : n ≤ 32) : rest n = 32 - n := by unfold rest; omega
theorem alike_iff {a b n : Nat} (h : n ≤ 32) : alike a b n = true ↔ a / 2 ^ (32 - n) = b / 2 ^ (32 - n) := by unfold alike; rw [rest_of h]; simp
theorem alike_self (a n : Nat) : alike a a n = true := by simp [alike]
theorem alike_symm {a b n : Nat} (h : alike a b n = true) : alike b a n = true := by simp [alike] at *; exact h.symm
theorem alike_trans {a b c n : Nat} (h : alike a b n = true) (k : alike b c n = true) : alike a c n = true := by simp [alike] at *; exact h.trans k
theorem alike_less {a b m n : Nat} (h : alike a b n = true) (hm : m ≤ n) (hn : n ≤ 32) : alike a b m = true := (alike_iff (by omega)).2 (alike_down a b m n hm hn ((alike_iff hn).1 h))
theorem alike_more {a b n : Nat} (hn : n < 32) : alike a b (n + 1) = true ↔ alike a b n = true ∧ bit a n = bit b n := by
  constructor
  · intro h
    have h1 := alike_less h (Nat.le_succ n) (by omega)
    exact ⟨h1, (alike_step a b n hn ((alike_iff (by omega)).1 h1)).1 ((alike_iff (by omega)).1 h)⟩
  · rintro ⟨h1, h2⟩
    exact (alike_iff (by omega)).2 ((alike_step a b n hn ((alike_iff (by omega)).1 h1)).2 h2)
theorem alike_bits {a b m n : Nat} (h : alike a b n = true) (hm : m < n) (hn : n ≤ 32) : bit a m = bit b m := ((alike_more (by omega)).1 (alike_less h hm hn)).2
theorem right_le {a n : Nat} (h : right a n = true) : n ≤ 32 := by unfold right at h; simp at h; exact h.1
theorem right_same {a b n : Nat} (ha : right a n = true) (hb : right b n = true) (h : alike a b n = true) : a = b := by
  unfold right at ha hb
  unfold alike at h
  simp at ha hb h
  have e1 := Nat.div_add_mod a (2 ^ rest n)
  have e2 := Nat.div_add_mod b (2 ^ rest n)
  rw [ha.2] at e1
  rw [hb.2] at e2
  rw [h] at e1
  omega
theorem top_alike (a n : Nat) : alike (top a n) a n = true := by unfold alike; rw [top_div]; simp
theorem top_right {a n : Nat} (h : n ≤ 32) : right (top a n) n = true := by unfold right; rw [top_mod]; simp [h]
theorem top_self {a n : Nat} (h : right a n = true) : top a n = a := right_same (top_right (right_le h)) h (top_alike a n)
theorem right_more {a n m : Nat} (h : right a n = true) (hm : n ≤ m) (h2 : m ≤ 32) : right a m = true := by
  have hn := right_le h
  unfold right at *
  rw [rest_of hn] at h
  rw [rest_of h2]
  simp at *
  exact ⟨h2, mod_up a m n hm h.2⟩
/-- Of a prefix and one that lies in it: no lesser address. -/
theorem in_ge {a b n : Nat} (ha : right a n = true) (h : alike a b n = true) : a ≤ b := by
  unfold right at ha
  unfold alike at h
  simp at ha h
  have e1 := Nat.div_add_mod a (2 ^ rest n)
  have e2 := Nat.div_add_mod b (2 ^ rest n)
  rw [ha.2] at e1
  rw [h] at e1
  omega
theorem bit_lt {a b n : Nat} (hn : n < 32) (h : alike a b n = true) (h1 : bit a n = false) (h2 : bit b n = true) : a < b := by
  have e := (alike_iff (by omega)).1 h
  have s1 := step_div a n hn
  have s2 := step_div b n hn
  rw [h1] at s1
  rw [h2, ← e] at s2
  simp only [Bool.false_eq_true, if_false, if_true] at s1 s2
  have hlt : a / 2 ^ (32 - (n + 1)) < b / 2 ^ (32 - (n + 1)) := by omega
  rcases Nat.lt_or_ge a b with h | h
  · exact h
  · have := Nat.div_le_div_right (c := 2 ^ (32 - (n + 1))) h; omega

theorem comm_left (p m q n : Nat) : comm p m q n ≤ m := by unfold comm; omega
theorem comm_right (p m q n : Nat) : comm p m q n ≤ n := by unfold comm; omega
theorem comm_alike {p m q n : Nat} (hp : p < 4294967296) (hq : q < 4294967296) (hm : m ≤ 32) : alike p q (comm p m q n) = true := by
  have hk : comm p m q n ≤ 32 := Nat.le_trans (comm_left p m q n) hm
  exact (alike_iff hk).2 ((zeros_ge p q _ hp hq hk).1 (by unfold comm; omega))
theorem comm_most {p m q n k : Nat} (hp : p < 4294967296) (hq : q < 4294967296) (hm : m ≤ 32) (h1 : k ≤ m) (h2 : k ≤ n) (h : alike p q k = true) : k ≤ comm p m q n := by
  have := (zeros_ge p q k hp hq (by omega)).2 ((alike_iff (by omega)).1 h)
  unfold comm
  omega
theorem comm_bit {p m q n : Nat} (hp : p < 4294967296) (hq : q < 4294967296) (hm : m ≤ 32) (h1 : comm p m q n < m) (h2 : comm p m q n < n) : bit p (comm p m q n) ≠ bit q (comm p m q n) := fun h => by
  have hk : comm p m q n < 32 := by omega
  have := comm_most hp hq hm h1 h2 ((alike_more hk).2 ⟨comm_alike hp hq hm, h⟩)
  omega

/-- A prefix that lies in another one, behind its next bit. -/
def U (a n : Nat) (s : Bool) (b m : Nat) : Prop := n < m ∧ m ≤ 32 ∧ alike a b n = true ∧ bit b n = s
theorem U.less {a n : Nat} {s : Bool} {b m c k : Nat} (h : U a n s b m) (hk : m ≤ k) (h32 : k ≤ 32) (hc : alike b c m = true) : U a n s c k :=
  ⟨Nat.lt_of_lt_of_le h.1 hk, h32, alike_trans h.2.2.1 (alike_less hc (Nat.le_of_lt h.1) h.2.1), (alike_bits hc h.1 h.2.1).symm.trans h.2.2.2⟩
theorem U.trans {a n : Nat} {s s' : Bool} {b m c k : Nat} (h : U a n s b m) (h' : U b m s' c k) : U a n s c k := h.less (Nat.le_of_lt h'.1) h'.2.1 h'.2.2.1
theorem U.fork {a n : Nat} {s : Bool} {b m c k : Nat} (h : U a n s b m) (h' : U a n s c k) (hb : b < 4294967296) (hc : c < 4294967296) : U a n s (top c (comm b m c k)) (comm b m c k) := by
  have h32 := h.2.1
  have hn : n < 32 := by have := h.1; omega
  have hal : alike b c (n + 1) = true := (alike_more hn).2 ⟨alike_trans (alike_symm h.2.2.1) h'.2.2.1, h.2.2.2.trans h'.2.2.2.symm⟩
  have hk := comm_most hb hc h32 h.1 h'.1 hal
  have hle := Nat.le_trans (comm_left b m c k) h32
  exact ⟨hk, hle, alike_trans h'.2.2.1 (alike_symm (alike_less (top_alike c _) (Nat.le_of_lt hk) hle)), (alike_bits (top_alike c _) hk hle).trans h'.2.2.2⟩

inductive T where
  | nil : T
  | node : Nat → Nat → Option R → T → T → T
def T.Mem : T → R → Prop
  | .nil, _ => False
  | .node _ _ x l r, y => x = some y ∨ l.Mem y ∨ r.Mem y
def T.Root (P : Nat → Nat → Prop) : T → Prop
  | .nil => True
  | .node a n _ _ _ => P a n
def T.WF : T → Prop
  | .nil => True
  | .node a n x l r => (a < 4294967296 ∧ n ≤ 32 ∧ right a n = true) ∧ (∀ y, x = some y → y.a = a ∧ y.n = n) ∧ l.Root (U a n false) ∧ r.Root (U a n true) ∧ l.WF ∧ r.WF
theorem T.Root.imp {P Q : Nat → Nat → Prop} {t : T} (h : t.Root P) (i : ∀ a n, P a n → Q a n) : t.Root Q := by cases t; trivial; exact i _ _ h
theorem mem_in {t : T} {y : R} (h : t.WF) (m : t.Mem y) : t.Root fun a n => n ≤ y.n ∧ y.n ≤ 32 ∧ alike a y.a n = true := by
  induction t with
  | nil => trivial
  | node a n x l r il ir =>
    obtain ⟨h1, h2, h3, h4, h5, h6⟩ := h
    show n ≤ y.n ∧ y.n ≤ 32 ∧ alike a y.a n = true
    rcases m with m | m | m
    · obtain ⟨rfl, rfl⟩ := h2 y m
      exact ⟨Nat.le_refl _, h1.2.1, alike_self _ _⟩
    · have := il h5 m
      cases l with
      | nil => exact m.elim
      | node b k _ _ _ => exact ⟨Nat.le_trans (Nat.le_of_lt h3.1) this.1, this.2.1, alike_trans h3.2.2.1 (alike_less this.2.2 (Nat.le_of_lt h3.1) h3.2.1)⟩
    · have := ir h6 m
      cases r with
      | nil => exact m.elim
      | node b k _ _ _ => exact ⟨Nat.le_trans (Nat.le_of_lt h4.1) this.1, this.2.1, alike_trans h4.2.2.1 (alike_less this.2.2 (Nat.le_of_lt h4.1) h4.2.1)⟩
theorem mem_side {t : T} {y : R} {a n : Nat} {s : Bool} (h : t.WF) (hr : t.Root (U a n s)) (m : t.Mem y) : U a n s y.a y.n := by
  have := mem_in h m
  cases t with
  | nil => exact m.elim
  | node b k _ _ _ => exact U.less hr this.1 this.2.1 this.2.2

def leaf (r : R) : T := .node r.a r.n (some r) .nil .nil
theorem leaf_wf {r : R} (h : r.Ok) : (leaf r).WF := ⟨h, fun y e => by injection e with e; subst e; exact ⟨rfl, rfl⟩, trivial, trivial, trivial, trivial⟩
/-- A place of which t lies on one side, u on the other. -/
def fork (a n : Nat) (x : Option R) (s : Bool) (t u : T) : T := if s then .node a n x u t else .node a n x t u
theorem fork_mem {a n : Nat} {x : Option R} {s : Bool} {t u : T} {y : R} : (fork a n x s t u).Mem y ↔ x = some y ∨ t.Mem y ∨ u.Mem y := by
  unfold fork
  split <;> simp only [T.Mem]
  constructor <;> (rintro (h | h | h) <;> simp [h])
def T.put : T → R → T × Bool
  | .nil, r => (leaf r, true)
  | .node a n x l rr, r =>
    if within r.a r.n a n then
      if r.a = a ∧ r.n = n then (.node a n (some r) l rr, x.isNone)
      else if sd r.a n then (.node a n x l (rr.put r).1, (rr.put r).2) else (.node a n x (l.put r).1 rr, (l.put r).2)
    else if r.a = top r.a (comm a n r.a r.n) ∧ r.n = comm a n r.a r.n then (fork (top r.a (comm a n r.a r.n)) (comm a n r.a r.n) (some r) (sd a (comm a n r.a r.n)) (.node a n x l rr) .nil, true)
    else (fork (top r.a (comm a n r.a r.n)) (comm a n r.a r.n) none (sd a (comm a n r.a r.n)) (.node a n x l rr) (leaf r), true)
theorem within_iff {a n b m : Nat} : within b m a n = true ↔ n ≤ m ∧ alike a b n = true := by unfold within; simp
/-- Where a prefix that lies in a place's goes on. -/
theorem in_side {a n : Nat} {r : R} (hr : r.Ok) (ha : right a n = true) (hw : n ≤ r.n ∧ alike a r.a n = true) (hne : ¬(r.a = a ∧ r.n = n)) : U a n (sd r.a n) r.a r.n := by
  have hlt : n < r.n := by
    rcases Nat.lt_or_ge n r.n with h | h
    · exact h
    · have e : r.n = n := by omega
      exact absurd ⟨(right_same (e ▸ ha) hr.2.2 (e ▸ hw.2)).symm, e⟩ hne
  exact ⟨hlt, hr.2.1, hw.2, (sd_bit (by have := hr.2.1; omega)).symm⟩
/-- The place at which two part. -/
theorem parts {a n : Nat} {r : R} (ha : a < 4294967296 ∧ n ≤ 32 ∧ right a n = true) (hr : r.Ok) (hw : ¬(n ≤ r.n ∧ alike a r.a n = true)) :
    comm a n r.a r.n < n ∧ U (top r.a (comm a n r.a r.n)) (comm a n r.a r.n) (sd a (comm a n r.a r.n)) a n ∧
      (¬(r.a = top r.a (comm a n r.a r.n) ∧ r.n = comm a n r.a r.n) → U (top r.a (comm a n r.a r.n)) (comm a n r.a r.n) (!sd a (comm a n r.a r.n)) r.a r.n) := by
  have hl := comm_left a n r.a r.n
  have hr' := comm_right a n r.a r.n
  have hal := comm_alike (n := r.n) ha.1 hr.1 ha.2.1
  have hlt : comm a n r.a r.n < n := by
    rcases Nat.lt_or_ge (comm a n r.a r.n) n with h | h
    · exact h
    · have e : comm a n r.a r.n = n := by omega
      rw [e] at hal hr'
      exact absurd ⟨hr', hal⟩ hw
  have hk : comm a n r.a r.n < 32 := by have := ha.2.1; omega
  refine ⟨hlt, ⟨hlt, ha.2.1, alike_trans (top_alike _ _) (alike_symm hal), (sd_bit hk).symm⟩, fun hne => ?_⟩
  have hlt2 : comm a n r.a r.n < r.n := by
    rcases Nat.lt_or_ge (comm a n r.a r.n) r.n with h | h
    · exact h
    · have e : r.n = comm a n r.a r.n := by omega
      exact absurd ⟨by rw [← e]; exact (top_self hr.2.2).symm, e⟩ hne
  refine ⟨hlt2, hr.2.1, top_alike _ _, ?_⟩
  have := comm_bit ha.1 hr.1 ha.2.1 hlt hlt2
  rw [sd_bit hk]
  revert this
  generalize bit a (comm a n r.a r.n) = p
  generalize bit r.a (comm a n r.a r.n) = q
  cases p <;> cases q <;> simp
theorem put_root {a n : Nat} {s : Bool} {t : T} {r : R} (h : t.WF) (hr : r.Ok) (hu : U a n s r.a r.n) (ht : t.Root (U a n s)) : (t.put r).1.Root (U a n s) := by
  cases t with
  | nil => exact hu
  | node b m x l rr =>
    have hf := U.fork ht hu h.1.1 hr.1
    unfold T.put
    split
    · split
      · exact ht
      · split <;> exact ht
    · split <;> (unfold fork; split <;> exact hf)
theorem put_wf {t : T} {r : R} (h : t.WF) (hr : r.Ok) : (t.put r).1.WF := by
  induction t with
  | nil => exact leaf_wf hr
  | node a n x l rr il ir =>
    have hh := h
    obtain ⟨h1, h2, h3, h4, h5, h6⟩ := h
    unfold T.put
    split
    · rename_i hw
      have hw := within_iff.1 hw
      split
      · rename_i he
        exact ⟨h1, fun y e => by injection e with e; subst e; exact he, h3, h4, h5, h6⟩
      · rename_i hne
        have hu := in_side hr h1.2.2 hw hne
        split
        · rename_i hs
          rw [hs] at hu
          exact ⟨h1, h2, h3, put_root h6 hr hu h4, h5, ir h6⟩
        · rename_i hs
          rw [Bool.eq_false_iff.2 hs] at hu
          exact ⟨h1, h2, put_root h5 hr hu h3, h4, il h5, h6⟩
    · rename_i hw
      have hp := parts h1 hr (fun h => hw (within_iff.2 h))
      have hk : comm a n r.a r.n ≤ 32 := Nat.le_trans (comm_left _ _ _ _) h1.2.1
      have ht : top r.a (comm a n r.a r.n) < 4294967296 ∧ comm a n r.a r.n ≤ 32 ∧ right (top r.a (comm a n r.a r.n)) (comm a n r.a r.n) = true := ⟨top_lt hr.1, hk, top_right hk⟩
      have hu := hp.2.1
      split
      · rename_i he
        unfold fork
        split
        · rename_i hs
          rw [hs] at hu
          exact ⟨ht, fun y e => by injection e with e; subst e; exact he, trivial, hu, trivial, hh⟩
        · rename_i hs
          rw [Bool.eq_false_iff.2 hs] at hu
          exact ⟨ht, fun y e => by injection e with e; subst e; exact he, hu, trivial, hh, trivial⟩
      · rename_i he
        have hv := hp.2.2 he
        unfold fork
        split
        · rename_i hs
          rw [hs] at hu hv
          exact ⟨ht, (fun y e => by cases e), hv, hu, leaf_wf hr, hh⟩
        · rename_i hs
          rw [Bool.eq_false_iff.2 hs] at hu hv
          exact ⟨ht, (fun y e => by cases e), hu, hv, hh, leaf_wf hr⟩
/-- A place's own, and what lies behind each side, are of different prefixes. -/
theorem apart {a n : Nat} {s : Bool} {y : R} (h : U a n s y.a y.n) : ¬(y.a = a ∧ y.n = n) := fun e => by have := h.1; omega
theorem sides {a n b m c k : Nat} {s : Bool} (h : U a n s b m) (h' : U a n (!s) c k) : ¬(b = c ∧ m = k) := fun e => by
  have h1 := h.2.2.2
  have h2 := h'.2.2.2
  rw [e.1, h2] at h1
  cases s <;> simp at h1
theorem put_mem {t : T} {r : R} (h : t.WF) (hr : r.Ok) (y : R) : (t.put r).1.Mem y ↔ y = r ∨ (t.Mem y ∧ ¬(y.a = r.a ∧ y.n = r.n)) := by
  induction t with
  | nil => simp [T.put, leaf, T.Mem]; exact eq_comm
  | node a n x l rr il ir =>
    have hh := h
    obtain ⟨h1, h2, h3, h4, h5, h6⟩ := h
    have ml := fun (m : l.Mem y) => mem_side h5 h3 m
    have mr := fun (m : rr.Mem y) => mem_side h6 h4 m
    unfold T.put
    split
    · rename_i hw
      have hw := within_iff.1 hw
      split
      · rename_i he
        simp only [T.Mem, Option.some.injEq]
        constructor
        · rintro (e | e | e)
          · exact .inl e.symm
          · exact .inr ⟨.inr (.inl e), fun h => apart (ml e) ⟨h.1.trans he.1, h.2.trans he.2⟩⟩
          · exact .inr ⟨.inr (.inr e), fun h => apart (mr e) ⟨h.1.trans he.1, h.2.trans he.2⟩⟩
        · rintro (e | ⟨e | e | e, hne⟩)
          · exact .inl e.symm
          · exact absurd ⟨(h2 y e).1.trans he.1.symm, (h2 y e).2.trans he.2.symm⟩ hne
          · exact .inr (.inl e)
          · exact .inr (.inr e)
      · rename_i hne
        have hu := in_side hr h1.2.2 hw hne
        split
        · rename_i hs
          rw [hs] at hu
          simp only [T.Mem, ir h6]
          constructor
          · rintro (e | e | e | e)
            · exact .inr ⟨.inl e, fun h => hne ⟨h.1.symm.trans (h2 y e).1, h.2.symm.trans (h2 y e).2⟩⟩
            · exact .inr ⟨.inr (.inl e), sides (s := false) (ml e) hu⟩
            · exact .inl e
            · exact .inr ⟨.inr (.inr e.1), e.2⟩
          · rintro (e | ⟨e | e | e, hn⟩)
            · exact .inr (.inr (.inl e))
            · exact .inl e
            · exact .inr (.inl e)
            · exact .inr (.inr (.inr ⟨e, hn⟩))
        · rename_i hs
          rw [Bool.eq_false_iff.2 hs] at hu
          simp only [T.Mem, il h5]
          constructor
          · rintro (e | (e | e) | e)
            · exact .inr ⟨.inl e, fun h => hne ⟨h.1.symm.trans (h2 y e).1, h.2.symm.trans (h2 y e).2⟩⟩
            · exact .inl e
            · exact .inr ⟨.inr (.inl e.1), e.2⟩
            · exact .inr ⟨.inr (.inr e), sides (s := true) (mr e) hu⟩
          · rintro (e | ⟨e | e | e, hn⟩)
            · exact .inr (.inl (.inl e))
            · exact .inl e
            · exact .inr (.inl (.inr ⟨e, hn⟩))
            · exact .inr (.inr e)
    · rename_i hw
      have hp := parts h1 hr (fun h => hw (within_iff.2 h))
      have mu : (T.node a n x l rr).Mem y → ¬(y.a = r.a ∧ y.n = r.n) := fun m e => by
        have hi := mem_in hh m
        have hi : n ≤ y.n ∧ y.n ≤ 32 ∧ alike a y.a n = true := hi
        rw [e.1, e.2] at hi
        exact hw (within_iff.2 ⟨hi.1, hi.2.2⟩)
      split
      · rw [fork_mem]
        simp only [Option.some.injEq]
        constructor
        · rintro (e | e | e)
          · exact .inl e.symm
          · exact .inr ⟨e, mu e⟩
          · exact e.elim
        · rintro (e | e)
          · exact .inl e.symm
          · exact .inr (.inl e.1)
      · rw [fork_mem]
        constructor
        · rintro (e | e | e)
          · cases e
          · exact .inr ⟨e, mu e⟩
          · left
            simp [leaf, T.Mem] at e
            exact e.symm
        · rintro (e | e)
          · exact .inr (.inr (.inl (by rw [e])))
          · exact .inr (.inl e.1)
theorem put_new {t : T} {r : R} (h : t.WF) (hr : r.Ok) : (t.put r).2 = true ↔ ∀ y, t.Mem y → ¬(y.a = r.a ∧ y.n = r.n) := by
  induction t with
  | nil => simp [T.put, T.Mem]
  | node a n x l rr il ir =>
    have hh := h
    obtain ⟨h1, h2, h3, h4, h5, h6⟩ := h
    unfold T.put
    split
    · rename_i hw
      have hw := within_iff.1 hw
      split
      · rename_i he
        simp only [T.Mem]
        constructor
        · intro hx y m
          rcases m with m | m | m
          · rw [m] at hx; cases hx
          · exact fun h => apart (mem_side h5 h3 m) ⟨h.1.trans he.1, h.2.trans he.2⟩
          · exact fun h => apart (mem_side h6 h4 m) ⟨h.1.trans he.1, h.2.trans he.2⟩
        · intro hx
          cases x with
          | none => rfl
          | some y => exact absurd ⟨(h2 y rfl).1.trans he.1.symm, (h2 y rfl).2.trans he.2.symm⟩ (hx y (.inl rfl))
      · rename_i hne
        have hu := in_side hr h1.2.2 hw hne
        split
        · rename_i hs
          rw [hs] at hu
          rw [show (T.node a n x l (rr.put r).1, (rr.put r).2).2 = (rr.put r).2 from rfl, ir h6]
          constructor
          · intro hx y m
            rcases m with m | m | m
            · exact fun h => hne ⟨h.1.symm.trans (h2 y m).1, h.2.symm.trans (h2 y m).2⟩
            · exact sides (s := false) (mem_side h5 h3 m) hu
            · exact hx y m
          · exact fun hx y m => hx y (.inr (.inr m))
        · rename_i hs
          rw [Bool.eq_false_iff.2 hs] at hu
          rw [show (T.node a n x (l.put r).1 rr, (l.put r).2).2 = (l.put r).2 from rfl, il h5]
          constructor
          · intro hx y m
            rcases m with m | m | m
            · exact fun h => hne ⟨h.1.symm.trans (h2 y m).1, h.2.symm.trans (h2 y m).2⟩
            · exact hx y m
            · exact sides (s := true) (mem_side h6 h4 m) hu
          · exact fun hx y m => hx y (.inr (.inl m))
    · rename_i hw
      have mu : ∀ y, (T.node a n x l rr).Mem y → ¬(y.a = r.a ∧ y.n = r.n) := fun y m e => by
        have hi : n ≤ y.n ∧ y.n ≤ 32 ∧ alike a y.a n = true := mem_in hh m
        rw [e.1, e.2] at hi
        exact hw (within_iff.2 ⟨hi.1, hi.2.2⟩)
      split <;> exact ⟨fun _ => mu, fun _ => rfl⟩
end Go.Proofs.Ytfhpcpanjonpeaa.Tri
