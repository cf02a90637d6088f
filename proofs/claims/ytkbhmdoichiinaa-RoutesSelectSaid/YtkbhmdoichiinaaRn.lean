/- The law's own list beside the routes': what an act does to both. -/
import Derived.Test.YtkbhmdoichiinaaRm
namespace Go.Proofs.Ytkbhmdoichiinaa.Rts
open Go.Proofs.Ytkbhmdoichiinaa.Src (pA pN pA_lt pN_le)
set_option maxRecDepth 4000

structure ActD where
  K : Nat
  B : Nat
  P : Nat
  Q : Nat
  M : Nat
instance : Inhabited ActD := ⟨⟨0, 0, 0, 0, 0⟩⟩
structure ActD.Ok (d : ActD) : Prop where
  K : d.K < 256
  B : d.B < 256
  P : d.P < 256
  Q : d.Q < 256
  M : d.M < 65536
/-- The metric that an act tells. -/
def ActD.met (d : ActD) : Nat := if d.K % 11 = 6 then 65535 else d.M
/-- What an act tells. -/
def ActD.e (d : ActD) (now : Nat) : E := ⟨pA d.P, pN d.P, d.B % 8, d.Q % 16, d.Q % 4, d.met, now + 50⟩
def ActD.key (d : ActD) : Nat := Rts.key (pA d.P) (pN d.P) (d.B % 8)
def ActD.time (d : ActD) (now : Nat) : Nat := if d.K % 11 ≤ 7 then now else now + d.Q % 40
/-- What an act does to the routes. -/
def ActD.rts (d : ActD) (now : Nat) (L : List E) : List E :=
  if d.K % 11 < 7 then (if d.met = 65535 then L.filter fun e => !(e.key == d.key) else putE L (d.e now))
  else if d.K % 11 = 7 then L.filter fun e => !(e.b == d.B % 8) else L.filter fun e => !(decide (e.u ≤ d.time now))
/-- Without what stands there first. -/
def wo (p : E → Bool) (l : List E) : List E := if l.any p then l.eraseIdx (l.findIdx p) else l
/-- What an act does to the law's list. -/
def ActD.lst (d : ActD) (now : Nat) (l : List E) : List E :=
  if d.K % 11 < 7 then wo (isOf (pA d.P) (pN d.P) (d.B % 8)) l ++ (if d.met = 65535 then [] else [d.e now])
  else if d.K % 11 = 7 then l.filter fun e => !(e.b == d.B % 8) else l.filter fun e => !(decide (e.u ≤ d.time now))
/-- Both lists hold the same, each key once. -/
structure Inv (L l : List E) (now : Nat) : Prop where
  up : Rising L
  ok : ∀ e ∈ L, e.Ok
  by8 : ∀ e ∈ L, e.b < 8 ∧ ∃ k, e.a = pA k ∧ e.n = pN k
  same : ∀ e, e ∈ L ↔ e ∈ l
  once : l.Pairwise fun x y => x.key ≠ y.key
theorem Inv.nil (now : Nat) : Inv [] [] now := ⟨List.Pairwise.nil, fun e h => by simp at h, fun e h => by simp at h, fun e => by simp, List.Pairwise.nil⟩
theorem Rising.once {L : List E} (h : Rising L) : L.Pairwise fun x y => x.key ≠ y.key := h.imp fun h => by omega
theorem Inv.perm {L l : List E} {now : Nat} (h : Inv L l now) : L.Perm l := by
  rw [List.perm_ext_iff_of_nodup]
  · exact h.same
  · exact h.up.once.imp fun h e => h (by rw [e])
  · exact h.once.imp fun h e => h (by rw [e])
theorem Inv.len {L l : List E} {now : Nat} (h : Inv L l now) : L.length = l.length := h.perm.length_eq
theorem wo_mem {p : E → Bool} {l : List E} {k : Nat} (hp : ∀ e ∈ l, p e = (e.key == k)) (ho : l.Pairwise fun x y => x.key ≠ y.key) : (∀ e, e ∈ wo p l ↔ e ∈ l ∧ e.key ≠ k) ∧ (wo p l).Pairwise (fun x y => x.key ≠ y.key) ∧ (wo p l).length ≤ l.length := by
  unfold wo
  by_cases ha : l.any p = true
  · rw [if_pos ha]
    have hx := List.findIdx_lt_length_of_exists (p := p) (xs := l) (by obtain ⟨x, h1, h2⟩ := List.any_eq_true.1 ha; exact ⟨x, h1, h2⟩)
    have hpx : p l[l.findIdx p] = true := List.findIdx_getElem (w := hx)
    have hkx : l[l.findIdx p].key = k := by rw [hp _ (List.getElem_mem hx)] at hpx; simpa using hpx
    refine ⟨fun e => ?_, List.Pairwise.sublist (List.eraseIdx_sublist _ _) ho, List.length_eraseIdx_le _ _⟩
    constructor
    · intro h
      obtain ⟨i, hi, hne, rfl⟩ := List.mem_eraseIdx_iff_getElem.1 h
      refine ⟨List.getElem_mem _, fun e => ?_⟩
      rw [← hkx] at e
      rcases Nat.lt_trichotomy i (l.findIdx p) with h1 | h1 | h1
      · exact (List.pairwise_iff_getElem.1 ho i _ hi hx h1) e
      · exact hne h1
      · exact (List.pairwise_iff_getElem.1 ho _ i hx hi h1) e.symm
    · rintro ⟨h, hne⟩
      obtain ⟨i, hi, rfl⟩ := List.getElem_of_mem h
      exact List.mem_eraseIdx_iff_getElem.2 ⟨i, hi, fun e => hne (by subst e; exact hkx), rfl⟩
  · rw [if_neg ha]
    refine ⟨fun e => ⟨fun h => ⟨h, fun hk => ha (List.any_eq_true.2 ⟨e, h, ?_⟩)⟩, fun h => h.1⟩, ho, Nat.le_refl _⟩
    rw [hp e h, hk]; simp
theorem ActD.e_ok {d : ActD} (h : d.Ok) {now : Nat} (hn : now < 4000000000000000000) (hm : d.met ≠ 65535) : (d.e now).Ok := by
  have h1 := pA_lt d.P
  have h2 := pN_le d.P
  have h3 := h.M
  refine ⟨h1, by show pN d.P < 256; omega, by show d.B % 8 < 16; omega, by show d.Q % 16 < 16; omega, by show d.Q % 4 < 65536; omega, ?_, by show now + 50 < _; omega⟩
  show d.met < 65535
  unfold ActD.met at hm ⊢
  split at hm <;> (try split) <;> omega
theorem ActD.inv {d : ActD} (hd : d.Ok) {L l : List E} {now : Nat} (h : Inv L l now) (hn : now < 4000000000000000000) : Inv (d.rts now L) (d.lst now l) (d.time now) ∧ (d.lst now l).length ≤ l.length + 1 := by
  have hkey : ∀ e ∈ l, isOf (pA d.P) (pN d.P) (d.B % 8) e = (e.key == d.key) := fun e he => isOf_key (h.ok e ((h.same e).2 he)) (by have := pN_le d.P; omega) (by omega)
  obtain ⟨w1, w2, w3⟩ := wo_mem hkey h.once
  have hfil : ∀ p : E → Bool, Inv (L.filter p) (l.filter p) (d.time now) := fun p => ⟨filter_rising h.up p, fun e he => h.ok e (List.mem_filter.1 he).1, fun e he => h.by8 e (List.mem_filter.1 he).1, fun e => by rw [List.mem_filter, List.mem_filter, h.same e], List.Pairwise.sublist List.filter_sublist h.once⟩
  unfold ActD.rts ActD.lst
  by_cases h7 : d.K % 11 < 7
  · rw [if_pos h7, if_pos h7]
    by_cases hm : d.met = 65535
    · rw [if_pos hm, if_pos hm, List.append_nil]
      refine ⟨⟨filter_rising h.up _, fun e he => h.ok e (List.mem_filter.1 he).1, fun e he => h.by8 e (List.mem_filter.1 he).1, fun e => ?_, w2⟩, by omega⟩
      rw [List.mem_filter, w1, h.same e]
      simp
    · rw [if_neg hm, if_neg hm]
      have hek : (d.e now).key = d.key := rfl
      refine ⟨⟨putE_rising h.up _, fun e he => ?_, fun e he => ?_, fun e => ?_, ?_⟩, by rw [List.length_append]; simp; omega⟩
      · rcases (putE_mem h.up _ e).1 he with rfl | ⟨he, -⟩
        · exact ActD.e_ok hd hn hm
        · exact h.ok e he
      · rcases (putE_mem h.up _ e).1 he with rfl | ⟨he, -⟩
        · exact ⟨by show d.B % 8 < 8; omega, d.P, rfl, rfl⟩
        · exact h.by8 e he
      · rw [putE_mem h.up, List.mem_append, w1, h.same e, hek, List.mem_singleton]
        constructor
        · rintro (h | h)
          · exact Or.inr h
          · exact Or.inl h
        · rintro (h | h)
          · exact Or.inr h
          · exact Or.inl h
      · rw [List.pairwise_append]
        refine ⟨w2, List.pairwise_singleton _ _, fun x hx y hy => ?_⟩
        rw [List.mem_singleton] at hy
        subst hy
        rw [hek]
        exact ((w1 x).1 hx).2
  · rw [if_neg h7, if_neg h7]
    by_cases h8 : d.K % 11 = 7
    · rw [if_pos h8, if_pos h8]
      exact ⟨hfil _, by have := List.length_filter_le (fun e : E => !(e.b == d.B % 8)) l; omega⟩
    · rw [if_neg h8, if_neg h8]
      exact ⟨hfil _, by have := List.length_filter_le (fun e : E => !(decide (e.u ≤ d.time now))) l; omega⟩
theorem ActD.time_le {d : ActD} (now : Nat) : d.time now ≤ now + 40 := by unfold ActD.time; split <;> omega
end Go.Proofs.Ytkbhmdoichiinaa.Rts
