/- Shelves as pure data: names as lists, files by their blocks, and what each act does. -/
import Derived.Test.YtkalgonkaoiapaaProg
namespace Go.Proofs.Ytkalgonkaoiapaa.Shf

abbrev S := List UInt8
/-- The file of a name. -/
def get : List (S × Nat) → S → Option Nat
  | [], _ => none
  | (k, b) :: r, s => if k = s then some b else get r s
def wo (l : List (S × Nat)) (s : S) : List (S × Nat) := l.filter (fun p => !decide (p.1 = s))
def wi (l : List (S × Nat)) (s : S) (b : Nat) : List (S × Nat) := wo l s ++ [(s, b)]
structure Mv where
  fr : S
  to : S
  f : Option Nat
def Mv.on (v : Mv) (l : List (S × Nat)) : List (S × Nat) := match v.f with
  | none => wo l v.fr
  | some b => wi (wo l v.fr) v.to b
/-- A shelf. -/
structure M where
  room : Int
  now : List (S × Nat)
  safe : List (S × Nat)
  moves : List Mv
  fl : Nat → S × Nat
  named : Nat
  gone : Nat
  done : Nat
  armed : Bool
  ahead : Int
  fallen : Bool

theorem get_app (l r : List (S × Nat)) (s : S) : get (l ++ r) s = (get l s).or (get r s) := by
  induction l with
  | nil => simp [get]
  | cons p l ih =>
    obtain ⟨k, b⟩ := p
    by_cases h : k = s
    · simp [get, h]
    · simp [get, h, ih]
theorem get_wo (l : List (S × Nat)) (s t : S) : get (wo l s) t = if t = s then none else get l t := by
  induction l with
  | nil => simp [get, wo]
  | cons p l ih =>
    obtain ⟨k, b⟩ := p
    simp only [wo] at ih ⊢
    by_cases h : k = s
    · subst h
      simp only [List.filter_cons, decide_true, Bool.not_true, Bool.false_eq_true, if_false]
      rw [ih]
      by_cases ht : t = k
      · simp [ht]
      · have : ¬ k = t := fun e => ht e.symm
        simp [get, this, ht]
    · simp only [List.filter_cons, h, decide_false, Bool.not_false, if_true]
      by_cases ht : k = t
      · subst ht; simp [get, h]
      · simp only [get, ht, if_false]; rw [ih]
theorem get_wi (l : List (S × Nat)) (s t : S) (b : Nat) : get (wi l s b) t = if t = s then some b else get l t := by
  unfold wi
  rw [get_app, get_wo]
  by_cases h : t = s
  · subst h; simp [get]
  · have : ¬ s = t := fun e => h e.symm
    simp [get, h, this]
theorem mem_get {l : List (S × Nat)} {s : S} {b : Nat} (h : get l s = some b) : (s, b) ∈ l := by
  induction l with
  | nil => simp [get] at h
  | cons p l ih =>
    obtain ⟨k, c⟩ := p
    by_cases hk : k = s
    · subst hk; simp [get] at h; subst h; simp
    · simp [get, hk] at h; exact List.mem_cons_of_mem _ (ih h)
theorem get_mem {l : List (S × Nat)} (hn : (l.map (·.1)).Nodup) {s : S} {b : Nat} (h : (s, b) ∈ l) : get l s = some b := by
  induction l with
  | nil => simp at h
  | cons p l ih =>
    obtain ⟨k, c⟩ := p
    simp at hn
    rcases List.mem_cons.1 h with e | h
    · cases e; simp [get]
    · have : k ≠ s := fun e => hn.1 b (by rw [e]; exact h)
      simp [get, this]; exact ih (by simpa using hn.2) h
theorem get_none {l : List (S × Nat)} {s : S} : get l s = none ↔ ∀ b, (s, b) ∉ l := by
  constructor
  · intro h b hb
    induction l with
    | nil => simp at hb
    | cons p l ih =>
      obtain ⟨k, c⟩ := p
      by_cases hk : k = s
      · simp [get, hk] at h
      · simp [get, hk] at h
        rcases List.mem_cons.1 hb with e | hb
        · cases e; exact hk rfl
        · exact ih h hb
  · intro h
    cases e : get l s with
    | none => rfl
    | some b => exact absurd (mem_get e) (h b)
/-- No name twice, no file twice. -/
structure Good (l : List (S × Nat)) : Prop where
  keys : (l.map (·.1)).Nodup
  files : (l.map (·.2)).Nodup
  ne : ∀ p ∈ l, p.1 ≠ []
theorem Good.nil : Good [] := ⟨by simp, by simp, by simp⟩
theorem Good.wo {l : List (S × Nat)} (h : Good l) (s : S) : Good (wo l s) :=
  ⟨h.keys.sublist ((List.filter_sublist).map _), h.files.sublist ((List.filter_sublist).map _), fun p hp => h.ne p (List.mem_filter.1 hp).1⟩
theorem mem_wo {l : List (S × Nat)} {s : S} {p : S × Nat} : p ∈ Shf.wo l s ↔ p ∈ l ∧ p.1 ≠ s := by simp [Shf.wo]
theorem Good.wi {l : List (S × Nat)} (h : Good l) (s : S) (b : Nat) (hs : s ≠ []) (hb : ∀ t, t ≠ s → (t, b) ∉ l) : Good (wi l s b) := by
  have h' := h.wo s
  refine ⟨?_, ?_, ?_⟩
  · unfold Shf.wi
    rw [List.map_append, List.nodup_append]
    refine ⟨h'.keys, by simp, ?_⟩
    intro x hx y hy
    simp at hy; subst hy
    obtain ⟨p, hp, rfl⟩ := List.mem_map.1 hx
    exact (mem_wo.1 hp).2
  · unfold Shf.wi
    rw [List.map_append, List.nodup_append]
    refine ⟨h'.files, by simp, ?_⟩
    intro x hx y hy
    simp at hy; subst hy
    obtain ⟨⟨t, c⟩, hp, rfl⟩ := List.mem_map.1 hx
    intro e
    simp at e
    subst e
    exact hb t (mem_wo.1 hp).2 (mem_wo.1 hp).1
  · intro p hp
    rcases List.mem_append.1 hp with hp | hp
    · exact h'.ne p hp
    · simp at hp; subst hp; exact hs
theorem Good.one {l : List (S × Nat)} (h : Good l) {s t : S} {b : Nat} (hs : (s, b) ∈ l) (ht : (t, b) ∈ l) : s = t := by
  have h2 := h.files
  induction l with
  | nil => simp at hs
  | cons p l ih =>
    obtain ⟨k, c⟩ := p
    simp at h2
    rcases List.mem_cons.1 hs with e | hs <;> rcases List.mem_cons.1 ht with e' | ht
    · cases e; cases e'; rfl
    · cases e; exact absurd ‹(t, b) ∈ l› (h2.1 _)
    · cases e'; exact absurd ‹(s, b) ∈ l› (h2.1 _)
    · have hk := h.keys; simp at hk
      exact ih ⟨by simpa using hk.2, by simpa using h2.2, fun p hp => h.ne p (List.mem_cons_of_mem _ hp)⟩ hs ht (by simpa using h2.2)

/-- How many bytes the files of some names have. -/
def tot (fl : Nat → S × Nat) (l : List (S × Nat)) : Nat := (l.map fun p => (fl p.2).1.length).sum
theorem tot_app (fl : Nat → S × Nat) (l r : List (S × Nat)) : tot fl (l ++ r) = tot fl l + tot fl r := by simp [tot]
theorem tot_wo {fl : Nat → S × Nat} {l : List (S × Nat)} (hn : (l.map (·.1)).Nodup) (s : S) :
    tot fl (wo l s) + (match get l s with | none => 0 | some b => (fl b).1.length) = tot fl l := by
  induction l with
  | nil => simp [tot, wo, get]
  | cons p l ih =>
    obtain ⟨k, b⟩ := p
    simp at hn
    have ih := ih (by simpa using hn.2)
    by_cases h : k = s
    · subst h
      have hz : get l k = none := get_none.2 hn.1
      have : wo l k = l := by
        unfold wo
        rw [List.filter_eq_self]
        intro q hq
        simp
        intro e
        exact hn.1 q.2 (by rw [← e]; exact hq)
      simp only [get, if_true]
      have e : wo ((k, b) :: l) k = l := by rw [← this]; simp [wo]
      rw [e]
      simp [tot]; omega
    · have e : wo ((k, b) :: l) s = (k, b) :: wo l s := by simp [wo, h]
      rw [e]
      simp only [get, h, if_false]
      simp only [tot, List.map_cons, List.sum_cons] at ih ⊢
      omega
theorem tot_le {fl : Nat → S × Nat} {l : List (S × Nat)} {s : S} {b : Nat} (h : (s, b) ∈ l) : (fl b).1.length ≤ tot fl l := by
  induction l with
  | nil => simp at h
  | cons p l ih =>
    rcases List.mem_cons.1 h with e | h
    · subst e; simp [tot]
    · have := ih h; simp only [tot, List.map_cons, List.sum_cons] at this ⊢; omega
theorem tot_upd_out {fl : Nat → S × Nat} {l : List (S × Nat)} {b : Nat} {x : S × Nat} (h : ∀ s, (s, b) ∉ l) : tot (fun c => if c = b then x else fl c) l = tot fl l := by
  unfold tot
  congr 1
  apply List.map_congr_left
  intro p hp
  have : p.2 ≠ b := fun e => h p.1 (by rw [← e]; exact hp)
  simp [this]
theorem tot_upd {fl : Nat → S × Nat} {l : List (S × Nat)} (hf : (l.map (·.2)).Nodup) {s : S} {b : Nat} {x : S × Nat} (h : (s, b) ∈ l) :
    tot (fun c => if c = b then x else fl c) l + (fl b).1.length = tot fl l + x.1.length := by
  induction l with
  | nil => simp at h
  | cons p l ih =>
    obtain ⟨k, c⟩ := p
    simp at hf
    by_cases e : c = b
    · subst e
      have ho : ∀ s, (s, c) ∉ l := hf.1
      have := tot_upd_out (fl := fl) (x := x) ho
      simp only [tot, List.map_cons, List.sum_cons, if_true] at this ⊢
      omega
    · have hm : (s, b) ∈ l := by
        rcases List.mem_cons.1 h with e' | h
        · cases e'; exact absurd rfl e
        · exact h
      have := ih (by simpa using hf.2) hm
      simp only [tot, List.map_cons, List.sum_cons, e, if_false] at this ⊢
      omega
theorem wo_self {l : List (S × Nat)} {s : S} (h : ∀ p ∈ l, p.1 ≠ s) : wo l s = l := by
  unfold wo
  rw [List.filter_eq_self]
  intro p hp
  simp [h p hp]
theorem Good.mv {l : List (S × Nat)} (h : Good l) (v : Mv) (hv : ∀ b, v.f = some b → v.to ≠ [] ∧ ∀ t, t ≠ v.fr → (t, b) ∉ l) : Good (v.on l) := by
  unfold Mv.on
  cases e : v.f with
  | none => exact h.wo _
  | some b =>
    obtain ⟨h1, h2⟩ := hv b e
    exact (h.wo v.fr).wi v.to b h1 (fun t _ hm => h2 t (mem_wo.1 hm).2 (mem_wo.1 hm).1)
theorem tot_new {fl : Nat → S × Nat} {l : List (S × Nat)} (h : Good l) {name : S} {b : Nat} (hn : get l name = none) (hb : ∀ s, (s, b) ∉ l) :
    tot (fun c => if c = b then ([], 0) else fl c) (Mv.on ⟨[], name, some b⟩ l) = tot fl l := by
  have e : Mv.on ⟨[], name, some b⟩ l = l ++ [(name, b)] := by
    simp only [Mv.on, wi]
    rw [wo_self h.ne, wo_self]
    intro p hp e
    exact get_none.1 hn p.2 (by rw [← e]; exact hp)
  rw [e, tot_app, tot_upd_out hb]
  simp [tot]
theorem tot_del {fl : Nat → S × Nat} {l : List (S × Nat)} (h : Good l) {name : S} {b : Nat} (hn : get l name = some b) : tot fl (Mv.on ⟨name, [], none⟩ l) + (fl b).1.length = tot fl l := by
  have := tot_wo (fl := fl) h.keys name
  rw [hn] at this
  exact this
theorem tot_ren {fl : Nat → S × Nat} {l : List (S × Nat)} (h : Good l) {fr to : S} {b : Nat} (hn : get l fr = some b) (hne : fr ≠ to) : tot fl (Mv.on ⟨fr, to, some b⟩ l) + (match get l to with | none => 0 | some c => (fl c).1.length) = tot fl l := by
  have h1 := tot_wo (fl := fl) h.keys fr
  rw [hn] at h1
  have h2 := tot_wo (fl := fl) (h.wo fr).keys to
  rw [get_wo, if_neg (fun e => hne e.symm)] at h2
  simp only [Mv.on, wi]
  rw [tot_app]
  simp only [tot, List.map_cons, List.map_nil, List.sum_cons, List.sum_nil] at h1 h2 ⊢
  omega
/-- Names behind the first so many moves. -/
def ages (l : List (S × Nat)) (v : List Mv) : List (S × Nat) := v.foldl (fun l v => v.on l) l
end Go.Proofs.Ytkalgonkaoiapaa.Shf
