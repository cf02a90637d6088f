/- Shelves as pure data: names as lists, files by their blocks, and what each act does. A shelf in memory: its block, its maps of names, its moves, its files and their bytes. What a shelf's small calls do: On, Used, Moves, Done, Arm, Room, act. What becomes of names and of files: keep, on, lose. What becomes of a shelf's names: lose, do. What is done to a shelf's names: do. How what was done to names becomes safe: settle. -/
import Derived.Test.YtdbhgkbmbbjpdaaGreatDoorProg
import Derived.WalkKit
import Derived.ProofKit
import Derived.OpenShut
import Derived.Below
import Derived.Lib.Hide
import Derived.Maps.OwnSet
import Derived.Maps.AppendAt
import Derived.Maps.RangeWalk
import Derived.Laws.OwnMore
import Derived.Laws.AppendOwnNone
import Derived.Deep.OwnRows
import Derived.OwnWalk
import Derived.StillTailTactics
import Derived.Laws.CopyRow
import Derived.Deep.Draws
import Derived.Handy
import Derived.BigQuiet
import Derived.Shelf.SlMaps.Clone
import Derived.Deep.RegionWith
import Derived.Deep.RegionLaw
import Derived.Deep.AppendLies
namespace Go.Proofs.YtdbhgkbmbbjpdaaGreatDoor.Shf
abbrev S := List UInt8
def get : List (S × Nat) → S → Option Nat
  | [], _ => none
  | (k, b) :: r, s => if k = s then some b else get r s
def wo (l : List (S × Nat)) (s : S) : List (S × Nat) := l.filter (fun p => !decide (p.1 = s))
def wi (l : List (S × Nat)) (s : S) (b : Nat) : List (S × Nat) := wo l s ++ [(s, b)]
structure Mv where
  fr : S
  to : S
  f : Option Nat
def Mv.on (v : Mv) (l : List (S × Nat)) : List (S × Nat) := match v.f with
  | none => wo l v.fr
  | some b => wi (wo l v.fr) v.to b
structure M where
  room : Int
  now : List (S × Nat)
  safe : List (S × Nat)
  moves : List Mv
  fl : Nat → S × Nat
  named : Nat
  gone : Nat
  done : Nat
  armed : Bool
  ahead : Int
  fallen : Bool
theorem get_app (l r : List (S × Nat)) (s : S) : get (l ++ r) s = (get l s).or (get r s) := by
  induction l with
  | nil => simp [get]
  | cons p l ih =>
    obtain ⟨k, b⟩ := p
    by_cases h : k = s
    · simp [get, h]
    · simp [get, h, ih]
theorem get_wo (l : List (S × Nat)) (s t : S) : get (wo l s) t = if t = s then none else get l t := by
  induction l with
  | nil => simp [get, wo]
  | cons p l ih =>
    obtain ⟨k, b⟩ := p
    simp only [wo] at ih ⊢
    by_cases h : k = s
    · subst h
      simp only [List.filter_cons, decide_true, Bool.not_true, Bool.false_eq_true, if_false]
      rw [ih]
      by_cases ht : t = k
      · simp [ht]
      · have : ¬ k = t := fun e => ht e.symm
        simp [get, this, ht]
    · simp only [List.filter_cons, h, decide_false, Bool.not_false, if_true]
      by_cases ht : k = t
      · subst ht; simp [get, h]
      · simp only [get, ht, if_false]; rw [ih]
theorem get_wi (l : List (S × Nat)) (s t : S) (b : Nat) : get (wi l s b) t = if t = s then some b else get l t := by
  unfold wi
  rw [get_app, get_wo]
  by_cases h : t = s
  · subst h; simp [get]
  · have : ¬ s = t := fun e => h e.symm
    simp [get, h, this]
theorem mem_get {l : List (S × Nat)} {s : S} {b : Nat} (h : get l s = some b) : (s, b) ∈ l := by
  induction l with
  | nil => simp [get] at h
  | cons p l ih =>
    obtain ⟨k, c⟩ := p
    by_cases hk : k = s
    · subst hk; simp [get] at h; subst h; simp
    · simp [get, hk] at h; exact List.mem_cons_of_mem _ (ih h)
theorem get_mem {l : List (S × Nat)} (hn : (l.map (·.1)).Nodup) {s : S} {b : Nat} (h : (s, b) ∈ l) : get l s = some b := by
  induction l with
  | nil => simp at h
  | cons p l ih =>
    obtain ⟨k, c⟩ := p
    simp at hn
    rcases List.mem_cons.1 h with e | h
    · cases e; simp [get]
    · have : k ≠ s := fun e => hn.1 b (by rw [e]; exact h)
      simp [get, this]; exact ih (by simpa using hn.2) h
theorem get_none {l : List (S × Nat)} {s : S} : get l s = none ↔ ∀ b, (s, b) ∉ l := by
  constructor
  · intro h b hb
    induction l with
    | nil => simp at hb
    | cons p l ih =>
      obtain ⟨k, c⟩ := p
      by_cases hk : k = s
      · simp [get, hk] at h
      · simp [get, hk] at h
        rcases List.mem_cons.1 hb with e | hb
        · cases e; exact hk rfl
        · exact ih h hb
  · intro h
    cases e : get l s with
    | none => rfl
    | some b => exact absurd (mem_get e) (h b)
structure Good (l : List (S × Nat)) : Prop where
  keys : (l.map (·.1)).Nodup
  files : (l.map (·.2)).Nodup
  ne : ∀ p ∈ l, p.1 ≠ []
theorem Good.nil : Good [] := ⟨by simp, by simp, by simp⟩
theorem Good.wo {l : List (S × Nat)} (h : Good l) (s : S) : Good (wo l s) :=
  ⟨h.keys.sublist ((List.filter_sublist).map _), h.files.sublist ((List.filter_sublist).map _), fun p hp => h.ne p (List.mem_filter.1 hp).1⟩
theorem mem_wo {l : List (S × Nat)} {s : S} {p : S × Nat} : p ∈ Shf.wo l s ↔ p ∈ l ∧ p.1 ≠ s := by simp [Shf.wo]
theorem Good.wi {l : List (S × Nat)} (h : Good l) (s : S) (b : Nat) (hs : s ≠ []) (hb : ∀ t, t ≠ s → (t, b) ∉ l) : Good (wi l s b) := by
  have h' := h.wo s
  refine ⟨?_, ?_, ?_⟩
  · unfold Shf.wi
    rw [List.map_append, List.nodup_append]
    refine ⟨h'.keys, by simp, ?_⟩
    intro x hx y hy
    simp at hy; subst hy
    obtain ⟨p, hp, rfl⟩ := List.mem_map.1 hx
    exact (mem_wo.1 hp).2
  · unfold Shf.wi
    rw [List.map_append, List.nodup_append]
    refine ⟨h'.files, by simp, ?_⟩
    intro x hx y hy
    simp at hy; subst hy
    obtain ⟨⟨t, c⟩, hp, rfl⟩ := List.mem_map.1 hx
    intro e
    simp at e
    subst e
    exact hb t (mem_wo.1 hp).2 (mem_wo.1 hp).1
  · intro p hp
    rcases List.mem_append.1 hp with hp | hp
    · exact h'.ne p hp
    · simp at hp; subst hp; exact hs
theorem Good.one {l : List (S × Nat)} (h : Good l) {s t : S} {b : Nat} (hs : (s, b) ∈ l) (ht : (t, b) ∈ l) : s = t := by
  have h2 := h.files
  induction l with
  | nil => simp at hs
  | cons p l ih =>
    obtain ⟨k, c⟩ := p
    simp at h2
    rcases List.mem_cons.1 hs with e | hs <;> rcases List.mem_cons.1 ht with e' | ht
    · cases e; cases e'; rfl
    · cases e; exact absurd ‹(t, b) ∈ l› (h2.1 _)
    · cases e'; exact absurd ‹(s, b) ∈ l› (h2.1 _)
    · have hk := h.keys; simp at hk
      exact ih ⟨by simpa using hk.2, by simpa using h2.2, fun p hp => h.ne p (List.mem_cons_of_mem _ hp)⟩ hs ht (by simpa using h2.2)
def tot (fl : Nat → S × Nat) (l : List (S × Nat)) : Nat := (l.map fun p => (fl p.2).1.length).sum
theorem tot_app (fl : Nat → S × Nat) (l r : List (S × Nat)) : tot fl (l ++ r) = tot fl l + tot fl r := by simp [tot]
theorem tot_wo {fl : Nat → S × Nat} {l : List (S × Nat)} (hn : (l.map (·.1)).Nodup) (s : S) :
    tot fl (wo l s) + (match get l s with | none => 0 | some b => (fl b).1.length) = tot fl l := by
  induction l with
  | nil => simp [tot, wo, get]
  | cons p l ih =>
    obtain ⟨k, b⟩ := p
    simp at hn
    have ih := ih (by simpa using hn.2)
    by_cases h : k = s
    · subst h
      have hz : get l k = none := get_none.2 hn.1
      have : wo l k = l := by
        unfold wo
        rw [List.filter_eq_self]
        intro q hq
        simp
        intro e
        exact hn.1 q.2 (by rw [← e]; exact hq)
      simp only [get, if_true]
      have e : wo ((k, b) :: l) k = l := by rw [← this]; simp [wo]
      rw [e]
      simp [tot]; omega
    · have e : wo ((k, b) :: l) s = (k, b) :: wo l s := by simp [wo, h]
      rw [e]
      simp only [get, h, if_false]
      simp only [tot, List.map_cons, List.sum_cons] at ih ⊢
      omega
theorem tot_le {fl : Nat → S × Nat} {l : List (S × Nat)} {s : S} {b : Nat} (h : (s, b) ∈ l) : (fl b).1.length ≤ tot fl l := by
  induction l with
  | nil => simp at h
  | cons p l ih =>
    rcases List.mem_cons.1 h with e | h
    · subst e; simp [tot]
    · have := ih h; simp only [tot, List.map_cons, List.sum_cons] at this ⊢; omega
theorem tot_upd_out {fl : Nat → S × Nat} {l : List (S × Nat)} {b : Nat} {x : S × Nat} (h : ∀ s, (s, b) ∉ l) : tot (fun c => if c = b then x else fl c) l = tot fl l := by
  unfold tot
  congr 1
  apply List.map_congr_left
  intro p hp
  have : p.2 ≠ b := fun e => h p.1 (by rw [← e]; exact hp)
  simp [this]
theorem tot_upd {fl : Nat → S × Nat} {l : List (S × Nat)} (hf : (l.map (·.2)).Nodup) {s : S} {b : Nat} {x : S × Nat} (h : (s, b) ∈ l) :
    tot (fun c => if c = b then x else fl c) l + (fl b).1.length = tot fl l + x.1.length := by
  induction l with
  | nil => simp at h
  | cons p l ih =>
    obtain ⟨k, c⟩ := p
    simp at hf
    by_cases e : c = b
    · subst e
      have ho : ∀ s, (s, c) ∉ l := hf.1
      have := tot_upd_out (fl := fl) (x := x) ho
      simp only [tot, List.map_cons, List.sum_cons, if_true] at this ⊢
      omega
    · have hm : (s, b) ∈ l := by
        rcases List.mem_cons.1 h with e' | h
        · cases e'; exact absurd rfl e
        · exact h
      have := ih (by simpa using hf.2) hm
      simp only [tot, List.map_cons, List.sum_cons, e, if_false] at this ⊢
      omega
theorem wo_self {l : List (S × Nat)} {s : S} (h : ∀ p ∈ l, p.1 ≠ s) : wo l s = l := by
  unfold wo
  rw [List.filter_eq_self]
  intro p hp
  simp [h p hp]
theorem Good.mv {l : List (S × Nat)} (h : Good l) (v : Mv) (hv : ∀ b, v.f = some b → v.to ≠ [] ∧ ∀ t, t ≠ v.fr → (t, b) ∉ l) : Good (v.on l) := by
  unfold Mv.on
  cases e : v.f with
  | none => exact h.wo _
  | some b =>
    obtain ⟨h1, h2⟩ := hv b e
    exact (h.wo v.fr).wi v.to b h1 (fun t _ hm => h2 t (mem_wo.1 hm).2 (mem_wo.1 hm).1)
theorem tot_new {fl : Nat → S × Nat} {l : List (S × Nat)} (h : Good l) {name : S} {b : Nat} (hn : get l name = none) (hb : ∀ s, (s, b) ∉ l) :
    tot (fun c => if c = b then ([], 0) else fl c) (Mv.on ⟨[], name, some b⟩ l) = tot fl l := by
  have e : Mv.on ⟨[], name, some b⟩ l = l ++ [(name, b)] := by
    simp only [Mv.on, wi]
    rw [wo_self h.ne, wo_self]
    intro p hp e
    exact get_none.1 hn p.2 (by rw [← e]; exact hp)
  rw [e, tot_app, tot_upd_out hb]
  simp [tot]
theorem tot_del {fl : Nat → S × Nat} {l : List (S × Nat)} (h : Good l) {name : S} {b : Nat} (hn : get l name = some b) : tot fl (Mv.on ⟨name, [], none⟩ l) + (fl b).1.length = tot fl l := by
  have := tot_wo (fl := fl) h.keys name
  rw [hn] at this
  exact this
theorem tot_ren {fl : Nat → S × Nat} {l : List (S × Nat)} (h : Good l) {fr to : S} {b : Nat} (hn : get l fr = some b) (hne : fr ≠ to) : tot fl (Mv.on ⟨fr, to, some b⟩ l) + (match get l to with | none => 0 | some c => (fl c).1.length) = tot fl l := by
  have h1 := tot_wo (fl := fl) h.keys fr
  rw [hn] at h1
  have h2 := tot_wo (fl := fl) (h.wo fr).keys to
  rw [get_wo, if_neg (fun e => hne e.symm)] at h2
  simp only [Mv.on, wi]
  rw [tot_app]
  simp only [tot, List.map_cons, List.map_nil, List.sum_cons, List.sum_nil] at h1 h2 ⊢
  omega
def ages (l : List (S × Nat)) (v : List Mv) : List (S × Nat) := v.foldl (fun l v => v.on l) l
end Go.Proofs.YtdbhgkbmbbjpdaaGreatDoor.Shf
namespace Go.Proofs.YtdbhgkbmbbjpdaaGreatDoor.Shf
open Go.ChangeShapes Go.WideShapes Go.ChangeAt Go.RowKit
def b8 (b : UInt8) : Value := .int .u8 (b.toNat : Int)
def str (l : List UInt8) : ByteArray := ⟨l.toArray⟩
theorem str_size (l : List UInt8) : (str l).size = l.length := rfl
theorem str_data (l : List UInt8) : (str l).data.toList = l := rfl
def ptrV (o : Option Nat) : Value := match o with | none => .pointer none | some b => .pointer (some ⟨b, 0, none⟩)
def ptrR : Value → Option (DataW Unit × List MemPlace)
  | .pointer (some ⟨b, 0, none⟩) => some (.lit (.int .i64 b), [])
  | _ => none
theorem ptrR_mk (b : Nat) : ptrR (.pointer (some ⟨b, 0, none⟩)) = some (.lit (.int .i64 b), []) := rfl
theorem ptrR_inv {v : Value} {y : DataW Unit × List MemPlace} (h : ptrR v = some y) : ∃ b : Nat, v = .pointer (some ⟨b, 0, none⟩) ∧ y = (.lit (.int .i64 b), []) := by
  unfold ptrR at h
  split at h
  · rename_i b; exact ⟨b, rfl, by simpa using h.symm⟩
  · cases h
theorem law : Go.Maps.Keyed Tryz.prog 9 := Go.Maps.string_keyed Tryz.underlying9
theorem zero62 (w : World) : (zeroValue 86).run Tryz.prog w = .ok (.pointer none) w := by kernel_rfl
theorem key9 (s : List UInt8) (h : s.length ≤ 1000000) : keyOf Tryz.prog 9 (.string (str s)) = some (.string s) := by
  rw [Go.WideMaps.keyOf_string_mk Tryz.underlying9 (by rw [str_size]; unfold maxLen; omega), str_data]
def atV (o : Option Nat) (z : DataW Unit) : DataW Unit := match o with | none => z | some c => .lit (.int .i64 c)
theorem atV_inj {o p : Option Nat} (h : ∀ z, atV o z = atV p z) : o = p := by
  cases o with
  | none => cases p with
    | none => rfl
    | some c => have := h .nil; simp [atV] at this
  | some b => cases p with
    | none => have := h .nil; simp [atV] at this
    | some c => have := h .nil; simp [atV] at this; exact congrArg some (by omega)
def NM (w : World) (b n : Nat) (l : List (S × Nat)) : Prop := ∃ D : DataW Unit, w.ownsMap Tryz.prog 9 ptrR b n D ∧ ∀ s z, D.atKey (.string s) z = atV (get l s) z
theorem NM.kept {w w' : World} {b n : Nat} {l : List (S × Nat)} {row : Option Nat} (h : NM w b n l) (hg : w.grownBy w' row) (hne : some b ≠ row) : NM w' b n l := by
  obtain ⟨D, h1, h2⟩ := h; exact ⟨D, h1.kept hg hne, h2⟩
theorem NM.lt {w : World} {b n : Nat} {l : List (S × Nat)} (h : NM w b n l) : b < w.heap.size := by obtain ⟨D, h1, _⟩ := h; exact h1.lt
theorem NM.same {w : World} {b n : Nat} {l l' : List (S × Nat)} (h : NM w b n l) (hl : ∀ s, get l s = get l' s) : NM w b n l' := by
  obtain ⟨D, h1, h2⟩ := h; exact ⟨D, h1, fun s z => by rw [← hl]; exact h2 s z⟩
theorem NM.made (w : World) : NM (w.alloc (.map #[] 0)) w.heap.size 0 [] := ⟨_, World.ownsMap_made w Tryz.prog 9 ptrR, fun s z => by simp [DataW.atKey, get, atV]⟩
theorem NM.look {w : World} {b n : Nat} {l : List (S × Nat)} (h : NM w b n l) {s : S} (hs : s.length ≤ 1000000) :
    (Instr.lookup 76 (.map (some b)) (.string (str s)) false).run Tryz.prog w = .ok (ptrV (get l s)) w := by
  obtain ⟨D, h1, h2⟩ := h
  obtain ⟨es, clock, hb, F, _, rfl⟩ := h1
  rcases Maps.fit_look false law Tryz.underlying76 (zero62 w) hb F (key9 s hs) with ⟨hrun, _, hat⟩ | ⟨e0, y, _, _, hrun, hRv, hat, _⟩
  · rw [hrun]
    have : get l s = none := atV_inj (p := none) fun z => by rw [← h2 s z]; exact hat z
    rw [this]; rfl
  · rw [hrun]
    obtain ⟨c, e1, e2⟩ := ptrR_inv hRv
    have : get l s = some c := atV_inj (p := some c) fun z => by rw [← h2 s z, hat z, e2]; rfl
    rw [this, if_neg (by simp), e1]; rfl
theorem keylit (s : S) : WideAt.IsKeyLit (.string s) := trivial
theorem NM.put {w : World} {b n : Nat} {l : List (S × Nat)} (h : NM w b n l) {s : S} (hs : s.length ≤ 1000000) (c : Nat) (hn : n < maxLen) :
    ∃ w', (Instr.mapUpdate 76 (.map (some b)) (.string (str s)) (.pointer (some ⟨c, 0, none⟩))).run Tryz.prog w = .ok () w' ∧ NM w' b (n + 1) (wi l s c) ∧ w.grownBy w' (some b) := by
  obtain ⟨D, h1, h2⟩ := h
  obtain ⟨w', hr, ho, hg⟩ := h1.update law Tryz.underlying76 hn (key9 s hs) (ptrR_mk c)
  refine ⟨w', hr, ⟨_, ho, fun t z => ?_⟩, hg⟩
  rw [get_wi]
  by_cases e : t = s
  · subst e
    rw [Maps.atKey_put_same h1.isMap (keylit t)]; simp [atV]
  · rw [Maps.atKey_put_other (by intro e'; apply e; injection e'), h2, if_neg e]
theorem NM.del {w : World} {b n : Nat} {l : List (S × Nat)} (h : NM w b n l) {s : S} (hs : s.length ≤ 1000000) (ty : TypeId) :
    ∃ w', (Builtin.delete_ #[76, 9] ty #[.map (some b), .string (str s)]).run Tryz.prog w = .ok (.tuple #[]) w' ∧ NM w' b n (wo l s) ∧ w.grownBy w' (some b) := by
  obtain ⟨D, h1, h2⟩ := h
  obtain ⟨w', hr, ho, hg⟩ := h1.drop law Tryz.underlying76 (key9 s hs) ty
  refine ⟨w', hr, ⟨_, ho, fun t z => ?_⟩, hg.grown⟩
  rw [get_wo]
  by_cases e : t = s
  · subst e
    rw [Maps.atKey_del_same]; simp [atV]
  · rw [Maps.atKey_del_other (by intro e'; apply e; injection e'), h2, if_neg e]
def NMv (w : World) (v : Value) (n : Nat) (l : List (S × Nat)) : Prop := (v = .map none ∧ l = []) ∨ ∃ b, v = .map (some b) ∧ NM w b n l
def mapBlock : Value → Option Nat
  | .map m => m
  | _ => none
theorem NMv.kept {w w' : World} {v : Value} {n : Nat} {l : List (S × Nat)} {row : Option Nat} (h : NMv w v n l) (hg : w.grownBy w' row) (hne : ∀ b, mapBlock v = some b → some b ≠ row) : NMv w' v n l := by
  rcases h with h | ⟨b, rfl, h⟩
  · exact Or.inl h
  · exact Or.inr ⟨b, rfl, h.kept hg (hne b rfl)⟩
theorem NMv.form {w : World} {v : Value} {n : Nat} {l : List (S × Nat)} (h : NMv w v n l) : ∃ mb, v = .map mb := by
  rcases h with ⟨rfl, _⟩ | ⟨b, rfl, _⟩ <;> exact ⟨_, rfl⟩
theorem NMv.lt {w : World} {v : Value} {n : Nat} {l : List (S × Nat)} (h : NMv w v n l) : ∀ b, mapBlock v = some b → b < w.heap.size := by
  rcases h with ⟨rfl, _⟩ | ⟨b, rfl, h⟩
  · intro b h; cases h
  · intro c hc; cases hc; exact h.lt
theorem NMv.look {w : World} {v : Value} {n : Nat} {l : List (S × Nat)} (h : NMv w v n l) {s : S} (hs : s.length ≤ 1000000) :
    (Instr.lookup 76 v (.string (str s)) false).run Tryz.prog w = .ok (ptrV (get l s)) w := by
  rcases h with ⟨rfl, rfl⟩ | ⟨b, rfl, h⟩
  · exact Maps.look_nil false law Tryz.underlying76 (zero62 w) (key9 s hs)
  · exact h.look hs
def Own (w : World) (v : Value) (l : List UInt8) : Prop := (v = .slice none 0 0 ∧ l = []) ∨
  ∃ g cap cur, v = .slice (some ⟨g, 0, none⟩) l.length cap ∧ w.heap[g]? = some (.cells cur 5 (0, 0)) ∧ l.length ≤ cap ∧ cap ≤ maxLen ∧ cap ≤ cur.size ∧ cur.toList.take l.length = l.map b8
theorem Own.kept {w w' : World} {v : Value} {l : List UInt8} {row : Option Nat} (h : Own w v l) (hg : w.grownBy w' row) (hne : ∀ b, v.ownBlock = some b → some b ≠ row) : Own w' v l := by
  rcases h with h | ⟨g, cap, cur, rfl, hb, h⟩
  · exact Or.inl h
  · have hlt : g < w.heap.size := (Array.getElem?_eq_some_iff.1 hb).1
    exact Or.inr ⟨g, cap, cur, rfl, (hg.block g hlt (hne g rfl)).trans hb, h⟩
theorem Own.lt {w : World} {v : Value} {l : List UInt8} (h : Own w v l) : ∀ b, v.ownBlock = some b → b < w.heap.size := by
  rcases h with ⟨rfl, _⟩ | ⟨g, cap, cur, rfl, hb, h⟩
  · intro b h; cases h
  · intro b h; cases h; exact (Array.getElem?_eq_some_iff.1 hb).1
def Rd (w : World) (A : Option Addr) (l : List UInt8) : Prop := 0 < l.length → ∃ ad : Addr, A = some ad ∧ ∀ j (hj : j < l.length), w.cell? (ad.add j) = some (b8 l[j])
theorem block_add (a : Addr) (n : Nat) : (a.add n).block = a.block := by unfold Addr.add; split <;> rfl
theorem zero_add' (g j : Nat) : (⟨g, 0, none⟩ : Addr).add j = ⟨g, j, none⟩ := by
  unfold Addr.add; split <;> simp_all
theorem Own.form {w : World} {v : Value} {l : List UInt8} (h : Own w v l) : ∃ A c, v = .slice A l.length c ∧ Rd w A l ∧ l.length ≤ c ∧ (A = none → c = 0) ∧ (∀ ad, A = some ad → v.ownBlock = some ad.block) := by
  rcases h with ⟨rfl, rfl⟩ | ⟨g, cap, cur, rfl, hb, h1, h2, h3, h4⟩
  · exact ⟨none, 0, rfl, fun h => by simp at h, Nat.le_refl _, fun _ => rfl, fun _ h => by cases h⟩
  · refine ⟨_, cap, rfl, fun h0 => ⟨_, rfl, fun j hj => ?_⟩, h1, (fun h => by cases h), (fun ad h => by cases h; rfl)⟩
    rw [zero_add', cell_of_row w g j _ 5 (0, 0) hb]
    have : (cur.toList.take l.length)[j]? = (l.map b8)[j]? := by rw [h4]
    rw [List.getElem?_take_of_lt hj] at this
    simpa [hj] using this
theorem info5 : (Tryz.prog.info? 5).map (fun i => (i.zero, i.size, i.bytes)) = some (some (.int .u8 0), 1, 1) := by kernel_rfl
theorem one_b8 (l : List UInt8) : ∀ v ∈ l.map b8, v.oneCell' = true := by
  intro v hv
  obtain ⟨b, _, rfl⟩ := List.mem_map.1 hv
  rfl
theorem Rd.src {w : World} {A : Option Addr} {l : List UInt8} (h : Rd w A l) (h0 : 0 < l.length) : ∃ ad, A = some ad ∧ ∀ j v, (l.map b8)[j]? = some v → w.cell? (ad.add j) = some v := by
  obtain ⟨ad, e, hc⟩ := h h0
  refine ⟨ad, e, fun j v hv => ?_⟩
  obtain ⟨hj, rfl⟩ := List.getElem?_eq_some_iff.1 hv
  simp at hj
  rw [hc j hj]; simp
theorem Own.app {w : World} {v : Value} {l r : List UInt8} (h : Own w v l) (ty : TypeId) {A : Option Addr} {c : Nat} (hr : Rd w A r) (hA : A = none → c = 0) (hlen : l.length + r.length ≤ 100000000000) :
    ∃ v' w', (Builtin.append_ #[30, 30] ty #[v, .slice A r.length c]).run Tryz.prog w = .ok v' w' ∧ Own w' v' (l ++ r) ∧ w.grownBy w' v.ownBlock ∧ (v'.ownBlock = v.ownBlock ∨ v'.ownBlock = some w.heap.size) := by
  obtain ⟨i0, hi, hz0, hz1, hz2⟩ := info_parts info5
  have hlen' : (l.map b8 ++ r.map b8).length = (l ++ r).length := by simp
  have grown : ∀ (old : Nat) (row : Option Nat),
      Own (w.drew.alloc (.cells ((l.map b8).toArray ++ (r.map b8).toArray ++ Builtin.zeroCells (Value.int .u8 0).cells (grownCap w (l.length + r.length) old 5 - (l.length + r.length))) 5)) (.slice (some ⟨w.heap.size, 0, none⟩) (l.length + r.length) (grownCap w (l.length + r.length) old 5)) (l ++ r) ∧
      w.grownBy (w.drew.alloc (.cells ((l.map b8).toArray ++ (r.map b8).toArray ++ Builtin.zeroCells (Value.int .u8 0).cells (grownCap w (l.length + r.length) old 5 - (l.length + r.length))) 5)) row := by
    intro old row
    have hge := grownCap_ge w (l.length + r.length) old 5
    have hcm : grownCap w (l.length + r.length) old 5 ≤ maxLen := grownCap_le_maxLen w (l.length + r.length) old 5 (by unfold maxLen; omega)
    refine ⟨Or.inr ⟨w.heap.size, _, _, by simp, heap_alloc_new w.drew _, by simpa using hge, hcm, ?_, ?_⟩, ⟨rfl, rfl, rfl, by simp, fun k hk _ => Below.heap_alloc w.drew _ k hk⟩⟩
    · simp only [Array.size_append, List.size_toArray, List.length_map, size_zeroCells, show (Value.int IntKind.u8 0).cells.size = 1 from rfl]
      omega
    · simp only [Array.toList_append, List.append_assoc]
      rw [← List.append_assoc, ← hlen', List.map_append]
      exact List.take_left
  rcases Nat.eq_zero_or_pos r.length with h0 | h0
  · obtain rfl : r = [] := List.eq_nil_of_length_eq_zero h0
    have key : (Builtin.append_ #[30, 30] ty #[v, .slice A 0 c]).run Tryz.prog w = .ok v w := by
      rcases h with ⟨rfl, rfl⟩ | ⟨g, cap, cur, rfl, hb, h1, h2, h3, h4⟩
      · cases A <;> simp [Builtin.append_, run_underlying Tryz.underlying30, sizeOf, typeInfo, hi, Builtin.lenOf, Builtin.firstCells, loadCells, loadCellsFrom]
      · cases A with
        | none =>
          obtain rfl := hA rfl
          simp [Builtin.append_, run_underlying Tryz.underlying30, sizeOf, typeInfo, hi, Builtin.lenOf, Builtin.firstCells, h1, storeCells]
        | some ad =>
          have := run_append_room (P := Tryz.prog) (w := w) 30 ty 5 i0 Tryz.underlying30 hi g l.length cap cur hb ad 0 c [] (by simp) (by simp) (by simp) (by omega) (by rw [hz1]; simp; omega)
          rw [this, hz1]
          have e : (List.take (l.length * 1) cur.toList ++ [] ++ List.drop (l.length * 1 + ([] : List Value).length) cur.toList).toArray = cur := by simp
          rw [e, setRow_self _ _ _ _ _ hb]
          rfl
    refine ⟨v, w, by simpa using key, by simpa using h, World.grownBy.refl w _, Or.inl rfl⟩
  · obtain ⟨ad, rfl, hc⟩ := hr.src h0
    rcases h with ⟨rfl, rfl⟩ | ⟨g, cap, cur, rfl, hb, h1, h2, h3, h4⟩
    · have hrun := run_append_nil (P := Tryz.prog) (w := w) 30 ty 5 i0 _ Tryz.underlying30 hi hz0 ad r.length c (r.map b8) (by simp [hz1]) hc h0 (by omega) (by rw [hz2]; omega)
      have hgr := grown 0 (Value.ownBlock (.slice none 0 0))
      simp only [List.length_nil, Nat.zero_add, List.nil_append, List.map_nil, Array.empty_append] at hgr
      exact ⟨_, _, hrun, by simpa using hgr.1, by simpa using hgr.2, Or.inr rfl⟩
    · by_cases hroom : l.length + r.length ≤ cap
      · have hrun := run_append_room (P := Tryz.prog) (w := w) 30 ty 5 i0 Tryz.underlying30 hi g l.length cap cur hb ad r.length c (r.map b8) (by simp [hz1]) hc (one_b8 r) hroom (by rw [hz1]; simp; omega)
        refine ⟨_, _, hrun, Or.inr ⟨g, cap, _, by simp, setRow_heap w g cur _ 5 _ hb, by simpa using hroom, h2, ?_, ?_⟩, ⟨rfl, rfl, rfl, by simp, fun k _ hk => setRow_other w g k _ (fun e => hk (by simp [Value.ownBlock, e]))⟩, Or.inl rfl⟩
        · simp only [hz1, List.size_toArray, List.length_append, List.length_take, List.length_drop, Array.length_toList, List.length_map]
          omega
        · rw [hz1, Nat.mul_one, h4, ← hlen', List.map_append]
          exact List.take_left
      · have holds : ∀ j u, (l.map b8)[j]? = some u → w.cell? ((⟨g, 0, none⟩ : Addr).add j) = some u := by
          intro j u hu
          rw [zero_add', cell_of_row w g j _ 5 (0, 0) hb]
          obtain ⟨hj, rfl⟩ := List.getElem?_eq_some_iff.1 hu
          have : (cur.toList.take l.length)[j]? = (l.map b8)[j]? := by rw [h4]
          simp at hj
          rw [List.getElem?_take_of_lt hj] at this
          simpa [hj] using this
        have hrun := run_append_grow (P := Tryz.prog) (w := w) 30 ty 5 i0 _ Tryz.underlying30 hi hz0 ⟨g, 0, none⟩ l.length cap (l.map b8) (by simp [hz1]) holds ad r.length c (r.map b8) (by simp [hz1]) hc (by omega) (by omega) (by
          rw [hz2]; exact growslice_fits (by omega) (by omega))
        have hgr := grown cap (Value.ownBlock (.slice (some ⟨g, 0, none⟩) l.length cap))
        exact ⟨_, _, hrun, by simpa using hgr.1, by simpa using hgr.2, Or.inr rfl⟩
end Go.Proofs.YtdbhgkbmbbjpdaaGreatDoor.Shf
namespace Go.Proofs.YtdbhgkbmbbjpdaaGreatDoor.Shf
open Go.ChangeShapes Go.WideShapes Go.ChangeAt Go.RowKit
def ShV (m : M) (nv sv mv : Value) : Array Value := #[.int .i64 m.room, nv, sv, mv, .int .i64 (m.named : Int), .int .i64 (m.gone : Int), .int .i64 (m.done : Int), .bool m.armed, .int .i64 m.ahead, .bool m.fallen]
def ShAt (w : World) (q : Nat) (m : M) (nv sv mv : Value) : Prop := w.heap[q]? = some (.cells (ShV m nv sv mv) 79 (0, 0))
theorem ShAt.cell {w : World} {q : Nat} {m : M} {nv sv mv : Value} (h : ShAt w q m nv sv mv) (i : Nat) : w.cell? ⟨q, i, none⟩ = (ShV m nv sv mv)[i]? := cell_of_row w q i _ 79 (0, 0) h
theorem ShAt.fz {w : World} {q : Nat} {m : M} {nv sv mv : Value} (h : ShAt w q m nv sv mv) (i : Nat) : w.frozen? ⟨q, i, none⟩ = false := frozen_of_row w q i _ 79 h
theorem ShAt.lt {w : World} {q : Nat} {m : M} {nv sv mv : Value} (h : ShAt w q m nv sv mv) : q < w.heap.size := (Array.getElem?_eq_some_iff.1 h).1
theorem ShAt.kept {w w' : World} {q : Nat} {m : M} {nv sv mv : Value} {row : Option Nat} (h : ShAt w q m nv sv mv) (hg : w.grownBy w' row) (hne : some q ≠ row) : ShAt w' q m nv sv mv := (hg.block q h.lt hne).trans h
theorem ShAt.set {w : World} {q : Nat} {m m' : M} {nv sv mv nv' sv' mv' : Value} (h : ShAt w q m nv sv mv) (i : Nat) (v : Value) (e : (ShV m nv sv mv).setIfInBounds i v = ShV m' nv' sv' mv') : ShAt (w.setCell ⟨q, i, none⟩ v) q m' nv' sv' mv' := by
  unfold ShAt; rw [heap_setCell_same w q i _ 79 _ h, e]
theorem grown_set (w : World) (q i : Nat) (v : Value) : w.grownBy (w.setCell ⟨q, i, none⟩ v) (some q) :=
  ⟨rfl, rfl, rfl, by simp [World.setCell], fun k _ hne => heap_setCell_other w ⟨q, i, none⟩ k v (fun e => hne (by rw [e]))⟩
theorem grown_drewN (w : World) (n : Nat) (r : Option Nat) : w.grownBy (w.drewN n) r := ⟨rfl, rfl, rfl, Nat.le_refl _, fun _ _ _ => rfl⟩
def M.act (m : M) : M := if m.fallen then m else if m.armed ∧ m.ahead = 0 then {m with fallen := true} else if m.armed then {m with ahead := m.ahead - 1, done := m.done + 1} else {m with done := m.done + 1}
def M.actE (m : M) : Nat := if m.fallen ∨ (m.armed ∧ m.ahead = 0) then 7 else 0
theorem on_any (w : World) (q : Nat) (m : M) (nv sv mv : Value) (h : ShAt w q m nv sv mv) : Calls Tryz.prog 17 #[.pointer (some ⟨q, 0, none⟩)] w fun e w' => e = .returned (.bool (!m.fallen)) ∧ w = w' := by
  have h9 : w.cell? ⟨q, 9, none⟩ = some (.bool m.fallen) := h.cell 9
  clear h
  go_enter Tryz.func17, Tryz.ntmps17
  go_wp2
  go_ret
  exact ⟨rfl, rfl⟩
theorem used_any (w : World) (q : Nat) (m : M) (nv sv mv : Value) (h : ShAt w q m nv sv mv) (hb : m.named + m.gone ≤ 1000000000000) : Calls Tryz.prog 67 #[.pointer (some ⟨q, 0, none⟩)] w fun e w' => e = .returned (.int .i64 ((m.named + m.gone : Nat) : Int)) ∧ ∃ k, w' = w.drewN k := by
  have h4 : w.cell? ⟨q, 4, none⟩ = some (.int .i64 (m.named : Int)) := h.cell 4
  have h5 : w.cell? ⟨q, 5, none⟩ = some (.int .i64 (m.gone : Int)) := h.cell 5
  clear h
  have hw : IntKind.i64.wrap ((m.named : Int) + (m.gone : Int)) = ((m.named + m.gone : Nat) : Int) := by rw [IntKind.wrap_i64] <;> omega
  go_enter Tryz.func67, Tryz.ntmps67
  go_wp2
  go_quiet (fail)
  go_wp2
  go_ret
  exact ⟨rfl, _, rfl⟩
theorem moves_any (w : World) (q : Nat) (m : M) (nv sv : Value) (A : Option Addr) (n c : Nat) (h : ShAt w q m nv sv (.slice A n c)) : Calls Tryz.prog 74 #[.pointer (some ⟨q, 0, none⟩)] w fun e w' => e = .returned (.int .i64 (n : Int)) ∧ w = w' := by
  have h4 : w.cell? ⟨q, 3, none⟩ = some (.slice A n c) := h.cell 3
  clear h
  go_enter Tryz.func74, Tryz.ntmps74
  go_wp2
  go_ret
  exact ⟨rfl, rfl⟩
theorem act_any (w : World) (q : Nat) (m : M) (nv sv mv : Value) (h : ShAt w q m nv sv mv) (hd : m.done < 1000000000000) (ha : m.armed = true → 0 ≤ m.ahead ∧ m.ahead < 9223372036854775808) :
    Calls Tryz.prog 45 #[.pointer (some ⟨q, 0, none⟩)] w fun e w' => e = .returned (.int .i64 (m.actE : Int)) ∧ ShAt w' q m.act nv sv mv ∧ w.grownBy w' (some q) := by
  have c22 := on_any w q m nv sv mv h
  have h6 : w.cell? ⟨q, 6, none⟩ = some (.int .i64 (m.done : Int)) := h.cell 6
  have h7 : w.cell? ⟨q, 7, none⟩ = some (.bool m.armed) := h.cell 7
  have h8 : w.cell? ⟨q, 8, none⟩ = some (.int .i64 m.ahead) := h.cell 8
  have h9 : w.cell? ⟨q, 9, none⟩ = some (.bool m.fallen) := h.cell 9
  have f6 := h.fz 6
  have f8 := h.fz 8
  have f9 := h.fz 9
  have HW := Lib.hid h
  have hw : IntKind.i64.wrap ((m.done : Int) + 1) = (m.done : Int) + 1 := by rw [IntKind.wrap_i64] <;> omega
  clear h
  by_cases hf : m.fallen = true
  · rw [show m.actE = 7 by simp [M.actE, hf], show m.act = m by simp [M.act, hf]]
    rw [hf] at c22
    go_enter Tryz.func45, Tryz.ntmps45
    go_wp2_with (first | (go_at_call 17; refine c22.mono ?_; rintro e w' ⟨rfl, rfl⟩))
    go_ret
    exact ⟨rfl, HW.out, World.grownBy.refl _ _⟩
  · have hf : m.fallen = false := by simpa using hf
    rw [hf] at c22
    by_cases hA : m.armed = true
    · rw [hA] at h7
      by_cases h0 : m.ahead = 0
      · rw [show m.actE = 7 by simp [M.actE, hA, h0], show m.act = {m with fallen := true} by simp [M.act, hf, hA, h0]]
        rw [h0] at h8
        have HS := Lib.hid (HW.out.set (m' := {m with fallen := true}) 9 (.bool true) rfl)
        go_enter Tryz.func45, Tryz.ntmps45
        go_wp2_with (first | (go_at_call 17; refine c22.mono ?_; rintro e w' ⟨rfl, rfl⟩))
        go_ret
        exact ⟨rfl, HS.out, grown_set _ _ _ _⟩
      · rw [show m.actE = 0 by simp [M.actE, hf, h0], show m.act = {m with ahead := m.ahead - 1, done := m.done + 1} by simp [M.act, hf, hA, h0]]
        have ha := ha hA
        have hw8 : IntKind.i64.wrap (m.ahead - 1) = m.ahead - 1 := by rw [IntKind.wrap_i64] <;> omega
        have h0' : (m.ahead == 0) = false := by simp [h0]
        have HS := Lib.hid ((HW.out.set (m' := {m with ahead := m.ahead - 1}) (nv' := nv) (sv' := sv) (mv' := mv) 8 (.int .i64 (m.ahead - 1)) rfl).set (m' := {m with ahead := m.ahead - 1, done := m.done + 1}) (nv' := nv) (sv' := sv) (mv' := mv) 6 (.int .i64 ((m.done : Int) + 1)) (by simp [ShV]))
        have HG := Lib.hid ((grown_set w q 8 (.int .i64 (m.ahead - 1))).trans (grown_set _ q 6 (.int .i64 ((m.done : Int) + 1))))
        go_enter Tryz.func45, Tryz.ntmps45
        go_wp2_with (first | (go_at_call 17; refine c22.mono ?_; rintro e w' ⟨rfl, rfl⟩))
        go_ret
        exact ⟨rfl, HS.out, HG.out⟩
    · have hA : m.armed = false := by simpa using hA
      rw [hA] at h7
      rw [show m.actE = 0 by simp [M.actE, hf, hA], show m.act = {m with done := m.done + 1} by simp [M.act, hf, hA]]
      have HS := Lib.hid (HW.out.set (m' := {m with done := m.done + 1}) (nv' := nv) (sv' := sv) (mv' := mv) 6 (.int .i64 ((m.done : Int) + 1)) (by simp [ShV]))
      go_enter Tryz.func45, Tryz.ntmps45
      go_wp2_with (first | (go_at_call 17; refine c22.mono ?_; rintro e w' ⟨rfl, rfl⟩))
      go_ret
      exact ⟨rfl, HS.out, grown_set _ _ _ _⟩
end Go.Proofs.YtdbhgkbmbbjpdaaGreatDoor.Shf
namespace Go.Proofs.YtdbhgkbmbbjpdaaGreatDoor.Shf
open Go.ChangeShapes Go.WideShapes Go.ChangeAt Go.RowKit
theorem nm_put {w : World} {ops : Array Oper} {rest : List Oper} {o : Oper} {a : Act} {Q : Exit → Act → World → Prop} (hg : o.guard = none) (mo x v : Operand) (hop : o.op = Op.mapUpdate 76 mo x v) (b n : Nat) (l : List (S × Nat))
    (hm : a.eval mo = .map (some b)) (h : NM w b n l) (hn : n < maxLen) (s : S) (c : Nat) (hx : a.eval x = .string (str s)) (hv : a.eval v = .pointer (some ⟨c, 0, none⟩)) (hs : s.length ≤ 1000000)
    (hK : ∀ w', NM w' b (n + 1) (wi l s c) → w.grownBy w' (some b) → wpList Tryz.prog ops Q rest (a.put o.dst undef) w') : wpList Tryz.prog ops Q (o :: rest) a w := by
  refine wpList_plain hg fun K' hK' => ?_
  obtain ⟨w', hrun, r1, r2⟩ := h.put hs c hn
  unfold Oper.wp
  simp [execOp, hop, hm, hx, hv, hrun, Result.andThen]
  exact hK' _ _ (hK w' r1 r2)
theorem nm_del {w : World} {ops : Array Oper} {rest : List Oper} {o : Oper} {a : Act} {Q : Exit → Act → World → Prop} (hg : o.guard = none) (mo x : Operand) (hop : o.op = Op.call { callee := Callee.builtin Builtin.delete, args := #[mo, x], argTypes := #[76, 9] }) (b n : Nat) (l : List (S × Nat))
    (hm : a.eval mo = .map (some b)) (h : NM w b n l) (s : S) (hx : a.eval x = .string (str s)) (hs : s.length ≤ 1000000)
    (hK : ∀ w', NM w' b n (wo l s) → w.grownBy w' (some b) → wpList Tryz.prog ops Q rest (a.put o.dst (.tuple #[])) w') : wpList Tryz.prog ops Q (o :: rest) a w := by
  refine wpList_plain hg fun K' hK' => ?_
  obtain ⟨w', hrun, r1, r2⟩ := h.del hs o.type
  unfold Oper.wp
  simp [execOp, hop, hm, hx, hrun, Result.andThen, resolve, invoke, builtin]
  exact hK' _ _ (hK w' r1 r2)
theorem NM.mono {w : World} {b n n' : Nat} {l : List (S × Nat)} (h : NM w b n l) (hn : n ≤ n') : NM w b n' l := by obtain ⟨D, h1, h2⟩ := h; exact ⟨D, h1.mono hn, h2⟩
def FlAt (w : World) (b : Nat) (v : Value) (s : Nat) : Prop := w.heap[b]? = some (.cells #[v, .int .i64 (s : Int)] 88 (0, 0))
theorem FlAt.kept {w w' : World} {b : Nat} {v : Value} {s : Nat} {row : Option Nat} (h : FlAt w b v s) (hg : w.grownBy w' row) (hne : some b ≠ row) : FlAt w' b v s := (hg.block b (Array.getElem?_eq_some_iff.1 h).1 hne).trans h
theorem FlAt.lt {w : World} {b : Nat} {v : Value} {s : Nat} (h : FlAt w b v s) : b < w.heap.size := (Array.getElem?_eq_some_iff.1 h).1
theorem FlAt.cell0 {w : World} {b : Nat} {v : Value} {s : Nat} (h : FlAt w b v s) : w.cell? ⟨b, 0, none⟩ = some v := (cell_of_row w b 0 _ 88 (0, 0) h).trans rfl
theorem FlAt.cell1 {w : World} {b : Nat} {v : Value} {s : Nat} (h : FlAt w b v s) : w.cell? ⟨b, 1, none⟩ = some (.int .i64 (s : Int)) := (cell_of_row w b 1 _ 88 (0, 0) h).trans rfl
theorem FlAt.fz {w : World} {b : Nat} {v : Value} {s : Nat} (h : FlAt w b v s) (i : Nat) : w.frozen? ⟨b, i, none⟩ = false := frozen_of_row w b i _ 88 h
theorem FlAt.set0 {w : World} {b : Nat} {v : Value} {s : Nat} (h : FlAt w b v s) (v' : Value) : FlAt (w.setCell ⟨b, 0, none⟩ v') b v' s := by
  unfold FlAt; rw [heap_setCell_same w b 0 _ 88 _ h]; rfl
theorem FlAt.set1 {w : World} {b : Nat} {v : Value} {s : Nat} (h : FlAt w b v s) (s' : Nat) : FlAt (w.setCell ⟨b, 1, none⟩ (.int .i64 (s' : Int))) b v s' := by
  unfold FlAt; rw [heap_setCell_same w b 1 _ 88 _ h]; rfl
theorem keep_any (w : World) (b : Nat) (v : Value) (s : Nat) (l : List UInt8) (n : Nat) (h : FlAt w b v s) (ho : Own w v l) (hne : v.ownBlock ≠ some b) (hn : n ≤ l.length) :
    Calls Tryz.prog 48 #[.pointer (some ⟨b, 0, none⟩), .int .i64 (n : Int)] w fun e w' => e = .returned (.tuple #[]) ∧ ∃ v', FlAt w' b v' n ∧ Own w' v' (l.take n) ∧ v'.ownBlock = v.ownBlock ∧ w.grownBy w' (some b) := by
  have h0 := h.cell0
  have h1 := h.cell1
  have f0 := h.fz 0
  have f1 := h.fz 1
  have HF := Lib.hid (fun v' => (h.set0 v').set1 n)
  have HG := Lib.hid (fun v' => (grown_set w b 0 v').trans (grown_set _ b 1 (.int .i64 (n : Int))))
  have HO := Lib.hid (fun v' => ho.kept (row := some b) ((grown_set w b 0 v').trans (grown_set _ b 1 (.int .i64 (n : Int)))) (fun c hc e => hne (by rw [hc, e])))
  clear h
  rcases ho with ⟨rfl, rfl⟩ | ⟨g, cap, cur, rfl, hb, k1, k2, k3, k4⟩
  · obtain rfl : n = 0 := by simpa using hn
    go_enter Tryz.func48, Tryz.ntmps48
    go_wp2
    go_returns
    exact ⟨rfl, _, HF.out _, Or.inl ⟨rfl, by simp⟩, rfl, HG.out _⟩
  · have HB := Lib.hid hb
    have HB := Lib.hid (fun v' => (((grown_set w b 0 v').trans (grown_set _ b 1 (.int .i64 (n : Int)))).block g (Array.getElem?_eq_some_iff.1 hb).1 (fun e => hne (by injection e with e; rw [← e]; rfl))).trans hb)
    have HL := Lib.hid k4
    clear hb k4 hne
    have hnc : (n : Int) ≤ (cap : Int) := by omega
    generalize hm : l.length = m at *
    go_enter Tryz.func48, Tryz.ntmps48
    go_wp2
    go_returns
    refine ⟨rfl, _, HF.out _, ?_, ?_, HG.out _⟩
    · refine Or.inr ⟨g, n, cur, by simp; omega, HB.out _, by simp; omega, by omega, by omega, ?_⟩
      have := HL.out
      rw [List.length_take, Nat.min_eq_left (by omega), List.map_take, ← this, List.take_take, Nat.min_eq_left (by omega)]
    · rfl
theorem box_cells {V w1 : World} {g r : Nat} {x y z : Value} (hV : V.heap[g]? = some (.cells #[x, y, z] 107 (0, 0))) (hg : V.grownBy w1 (some r)) (hr : g ≠ r) : w1.heap[g]? = some (.cells #[x, y, z] 107 (0, 0)) ∧ w1.cell? ⟨g, 1, none⟩ = some y ∧ w1.cell? ⟨g, 2, none⟩ = some z := by
  have h := (hg.block g (Array.getElem?_eq_some_iff.1 hV).1 (by intro e; injection e with e; exact hr e)).trans hV
  exact ⟨h, (cell_of_row w1 g 1 _ 107 (0, 0) h).trans rfl, (cell_of_row w1 g 2 _ 107 (0, 0) h).trans rfl⟩
theorem alloc2 (w : World) (o o' : Obj) : ((w.alloc o).alloc o').heap[w.heap.size]? = some o := by
  rw [Below.heap_alloc (w.alloc o) o' w.heap.size (by simp)]
  show (w.heap.push o)[w.heap.size]? = some o
  simp
theorem alloc1 (w : World) (o : Obj) : (w.alloc o).heap[w.heap.size]? = some o := by
  show (w.heap.push o)[w.heap.size]? = some o
  simp
def mvV (v : Mv) : Value := .agg #[.string (str v.fr), .string (str v.to), ptrV v.f]
set_option maxRecDepth 4000 in
theorem on_mv (w : World) (v : Mv) (nv : Value) (n : Nat) (l : List (S × Nat)) (h : NMv w nv n l) (hn : n < 1000000000000) (h1 : v.fr.length ≤ 1000000) (h2 : v.to.length ≤ 1000000) :
    Calls Tryz.prog 81 #[mvV v, nv] w fun e w' => ∃ b, e = .returned (.map (some b)) ∧ NM w' b (n + 1) (v.on l) ∧ w.grownBy w' (mapBlock nv) ∧ (mapBlock nv = some b ∨ w.heap.size ≤ b) := by
  obtain ⟨fr, to, f⟩ := v
  simp only at h1 h2
  have hx : n < maxLen := by unfold maxLen; omega
  have hmm := @run_makeMap Tryz.prog
  have hq0 := fun w => run_eql_map_nil_sl (P := Tryz.prog) w 76 _ _ none Tryz.underlying76
  have made : ∀ o, NM ((w.alloc o).alloc (.map #[] 0)) (w.heap.size + 1) 0 [] := fun o => by
    have := NM.made (w.alloc o)
    rwa [show (w.alloc o).heap.size = w.heap.size + 1 by simp] at this
  have G0 : ∀ o, w.grownBy ((w.alloc o).alloc (.map #[] 0)) none := fun o => (World.grownBy_alloc w o none).trans (World.grownBy_alloc _ (.map #[] 0) none)
  have back : ∀ (w1 : World) (o : Obj), ((w.alloc o).alloc (.map #[] 0)).grownBy w1 (some (w.heap.size + 1)) → w.grownBy w1 none := fun w1 o h =>
    ⟨h.os.trans (G0 o).os, h.tape.trans (G0 o).tape, h.output.trans (G0 o).output, Nat.le_trans (G0 o).size h.size, fun k hk hne => (h.block k (Nat.lt_of_lt_of_le hk (G0 o).size) (by intro e; injection e with e; omega)).trans ((G0 o).block k hk hne)⟩
  have HM := Lib.hid made
  have HK := Lib.hid back
  clear made G0 back
  rcases h with ⟨rfl, rfl⟩ | ⟨b, rfl, h⟩
  · cases f with
    | none =>
      simp only [mvV, ptrV]
      go_enter Tryz.func81, Tryz.ntmps81
      go_wp2_with (first | (at_delete; refine nm_del rfl _ _ rfl _ _ _ rfl (HM.out _) fr rfl h1 ?_; intro w1 hn1 hg1; obtain ⟨_, x1, x2⟩ := box_cells (alloc2 w _ _) hg1 (by omega)) | go_in)
      go_ret
      exact ⟨_, rfl, hn1.mono (by omega), HK.out _ _ hg1, Or.inr (by omega)⟩
    | some c =>
      simp only [mvV, ptrV]
      go_enter Tryz.func81, Tryz.ntmps81
      go_wp2_with (first
        | (at_delete; refine nm_del rfl _ _ rfl _ _ _ rfl (HM.out _) fr rfl h1 ?_; intro w1 hn1 hg1; obtain ⟨_, x1, x2⟩ := box_cells (alloc2 w _ _) hg1 (by omega))
        | (at_mapUpdate; refine nm_put rfl _ _ _ rfl _ _ _ rfl hn1 (by unfold maxLen; omega) to c rfl rfl h2 ?_; intro w2 hn2 hg2)
        | go_in)
      go_ret
      exact ⟨_, rfl, hn2.mono (by omega), HK.out _ _ (hg1.trans hg2), Or.inr (by omega)⟩
  · have hq1 := fun w => run_eql_map_nil_sl (P := Tryz.prog) w 76 _ _ (some b) Tryz.underlying76
    have hbl := h.lt
    cases f with
    | none =>
      simp only [mvV, ptrV]
      go_enter Tryz.func81, Tryz.ntmps81
      go_wp2_with (first | (at_delete; refine nm_del rfl _ _ rfl _ _ _ rfl (h.kept (World.grownBy_alloc _ _ none) (by simp)) fr rfl h1 ?_; intro w1 hn1 hg1; obtain ⟨_, x1, x2⟩ := box_cells (alloc1 w _) hg1 (by omega)) | go_in)
      go_ret
      exact ⟨_, rfl, hn1.mono (by omega), (World.grownBy_alloc _ _ _).trans hg1, Or.inl rfl⟩
    | some c =>
      simp only [mvV, ptrV]
      go_enter Tryz.func81, Tryz.ntmps81
      go_wp2_with (first
        | (at_delete; refine nm_del rfl _ _ rfl _ _ _ rfl (h.kept (World.grownBy_alloc _ _ none) (by simp)) fr rfl h1 ?_; intro w1 hn1 hg1; obtain ⟨_, x1, x2⟩ := box_cells (alloc1 w _) hg1 (by omega))
        | (at_mapUpdate; refine nm_put rfl _ _ _ rfl _ _ _ rfl hn1 hx to c rfl rfl h2 ?_; intro w2 hn2 hg2)
        | go_in)
      go_ret
      exact ⟨_, rfl, hn2, (World.grownBy_alloc _ _ _).trans (hg1.trans hg2), Or.inl rfl⟩
end Go.Proofs.YtdbhgkbmbbjpdaaGreatDoor.Shf
namespace Go.Proofs.YtdbhgkbmbbjpdaaGreatDoor.Shf
open Go.ChangeShapes Go.WideShapes Go.ChangeAt Go.RowKit
structure Chg (w w' : World) (R : Nat → Prop) : Prop where
  os : w'.os = w.os
  tape : w'.tape = w.tape
  output : w'.output = w.output
  size : w.heap.size ≤ w'.heap.size
  block : ∀ k, k < w.heap.size → ¬ R k → w'.heap[k]? = w.heap[k]?
theorem Chg.refl (w : World) (R : Nat → Prop) : Chg w w R := ⟨rfl, rfl, rfl, Nat.le_refl _, fun _ _ _ => rfl⟩
theorem Chg.trans {a b c : World} {R : Nat → Prop} (h : Chg a b R) (k : Chg b c R) : Chg a c R :=
  ⟨k.os.trans h.os, k.tape.trans h.tape, k.output.trans h.output, Nat.le_trans h.size k.size, fun i hi hn => (k.block i (Nat.lt_of_lt_of_le hi h.size) hn).trans (h.block i hi hn)⟩
theorem Chg.andThen {a b c : World} {R R' : Nat → Prop} (h : Chg a b R) (k : Chg b c R') (hr : ∀ i, i < a.heap.size → R' i → R i) : Chg a c R :=
  ⟨k.os.trans h.os, k.tape.trans h.tape, k.output.trans h.output, Nat.le_trans h.size k.size, fun i hi hn => (k.block i (Nat.lt_of_lt_of_le hi h.size) (fun hr' => hn (hr i hi hr'))).trans (h.block i hi hn)⟩
theorem Chg.wide {a b : World} {R R' : Nat → Prop} (h : Chg a b R) (hr : ∀ i, i < a.heap.size → R i → R' i) : Chg a b R' := ⟨h.os, h.tape, h.output, h.size, fun i hi hn => h.block i hi (fun h' => hn (hr i hi h'))⟩
theorem Chg.drew {a b : World} {R : Nat → Prop} (h : Chg a b R) : Chg a b.drew R := ⟨h.os, h.tape, h.output, h.size, h.block⟩
theorem chg_grown {a b : World} {row : Option Nat} (h : a.grownBy b row) : Chg a b (fun k => row = some k) := ⟨h.os, h.tape, h.output, h.size, fun i hi hn => h.block i hi (fun e => hn e.symm)⟩
theorem chg_alloc (w : World) (o : Obj) (R : Nat → Prop) : Chg w (w.alloc o) R := ⟨rfl, rfl, rfl, by simp, fun i hi _ => Below.heap_alloc w o i hi⟩
theorem chg_set (w : World) (q i : Nat) (v : Value) : Chg w (w.setCell ⟨q, i, none⟩ v) (fun k => k = q) := (chg_grown (grown_set w q i v)).wide (fun i _ h => by injection h with h; exact h.symm)
theorem Chg.below {a b : World} {R : Nat → Prop} {B : Nat} (h : Chg a b R) (hB : B ≤ a.heap.size) (hr : ∀ k, R k → B ≤ k) : Below B a b := ⟨h.os, h.tape, h.output, h.size, fun k hk => h.block k (Nat.lt_of_lt_of_le hk hB) (fun h' => Nat.lt_irrefl _ (Nat.lt_of_lt_of_le hk (hr k h')))⟩
theorem NM.at {w w' : World} {b n : Nat} {l : List (S × Nat)} (h : NM w b n l) (e : w'.heap[b]? = w.heap[b]?) : NM w' b n l := by
  obtain ⟨D, ⟨es, clock, hb, h1⟩, h2⟩ := h
  exact ⟨D, ⟨es, clock, e.trans hb, h1⟩, h2⟩
theorem NMv.at {w w' : World} {v : Value} {n : Nat} {l : List (S × Nat)} {R : Nat → Prop} (h : NMv w v n l) (hc : Chg w w' R) (hn : ∀ b, mapBlock v = some b → ¬ R b) : NMv w' v n l := by
  rcases h with h | ⟨b, rfl, h⟩
  · exact Or.inl h
  · exact Or.inr ⟨b, rfl, h.at (hc.block b h.lt (hn b rfl))⟩
theorem NMv.mono {w : World} {v : Value} {n n' : Nat} {l : List (S × Nat)} (h : NMv w v n l) (hn : n ≤ n') : NMv w v n' l := by
  rcases h with h | ⟨b, rfl, h⟩
  · exact Or.inl h
  · exact Or.inr ⟨b, rfl, h.mono hn⟩
theorem Own.at {w w' : World} {v : Value} {l : List UInt8} {R : Nat → Prop} (h : Own w v l) (hc : Chg w w' R) (hn : ∀ b, v.ownBlock = some b → ¬ R b) : Own w' v l := by
  rcases h with h | ⟨g, cap, cur, rfl, hb, h⟩
  · exact Or.inl h
  · exact Or.inr ⟨g, cap, cur, rfl, (hc.block g (Array.getElem?_eq_some_iff.1 hb).1 (hn g rfl)).trans hb, h⟩
theorem FlAt.at {w w' : World} {b : Nat} {v : Value} {s : Nat} {R : Nat → Prop} (h : FlAt w b v s) (hc : Chg w w' R) (hn : ¬ R b) : FlAt w' b v s := (hc.block b h.lt hn).trans h
theorem ShAt.at {w w' : World} {q : Nat} {m : M} {nv sv mv : Value} {R : Nat → Prop} (h : ShAt w q m nv sv mv) (hc : Chg w w' R) (hn : ¬ R q) : ShAt w' q m nv sv mv := (hc.block q h.lt hn).trans h
def mvC (v : Mv) : List Value := [.string (str v.fr), .string (str v.to), ptrV v.f]
def MvAt (w : World) (mv : Value) (l : List Mv) : Prop := w.ownsRow 0 107 3 mv l.length (l.flatMap mvC)
theorem MvAt.at {w w' : World} {v : Value} {l : List Mv} {R : Nat → Prop} (h : MvAt w v l) (hc : Chg w w' R) (hn : ∀ b, v.ownBlock = some b → ¬ R b) : MvAt w' v l := by
  obtain ⟨h1, h2⟩ := h
  refine ⟨h1, ?_⟩
  rcases h2 with h2 | ⟨g, cap, cur, rfl, hb, hg, h3⟩
  · exact Or.inl h2
  · exact Or.inr ⟨g, cap, cur, rfl, hb, (hc.block g (Array.getElem?_eq_some_iff.1 hg).1 (hn g rfl)).trans hg, h3⟩
theorem MvAt.lt {w : World} {v : Value} {l : List Mv} (h : MvAt w v l) : ∀ b, v.ownBlock = some b → b < w.heap.size := fun b hb => (World.ownsRow.lt h b hb).2
theorem grown_dset (w : World) (q i : Nat) (v : Value) : w.grownBy (w.drew.setCell ⟨q, i, none⟩ v) (some q) :=
  ⟨rfl, rfl, rfl, (grown_set w.drew q i v).size, fun k _ hne => (heap_setCell_other w.drew ⟨q, i, none⟩ k v (fun e => hne (by rw [e]))).trans rfl⟩
theorem chg_dset (w : World) (q i : Nat) (v : Value) : Chg w (w.drew.setCell ⟨q, i, none⟩ v) (fun k => k = q) := (chg_grown (grown_dset w q i v)).wide (fun i _ h => by injection h with h; exact h.symm)
def M.lose (m : M) (name : S) : M := match get m.now name with
  | none => m
  | some b => {m with named := m.named - (m.fl b).1.length, gone := m.gone + (m.fl b).1.length}
set_option maxRecDepth 4000 in
theorem lose_any (w : World) (q : Nat) (m : M) (nv sv mv : Value) (n : Nat) (name : S) (h : ShAt w q m nv sv mv) (hn : NMv w nv n m.now) (hl : name.length ≤ 1000000)
    (hf : ∀ b, get m.now name = some b → b ≠ q ∧ (∃ v, FlAt w b v (m.fl b).2 ∧ Own w v (m.fl b).1) ∧ (m.fl b).1.length ≤ m.named) (hb : m.named + m.gone ≤ 1000000000000) :
    Calls Tryz.prog 103 #[.pointer (some ⟨q, 0, none⟩), .string (str name)] w fun e w' => e = .returned (.tuple #[]) ∧ ShAt w' q (m.lose name) nv sv mv ∧ w.grownBy w' (some q) := by
  have hk := hn.look hl
  have h1 : w.cell? ⟨q, 1, none⟩ = some nv := h.cell 1
  have h4 : w.cell? ⟨q, 4, none⟩ = some (.int .i64 (m.named : Int)) := h.cell 4
  have h5 : w.cell? ⟨q, 5, none⟩ = some (.int .i64 (m.gone : Int)) := h.cell 5
  have f4 := h.fz 4
  have f5 := h.fz 5
  have HH := Lib.hid h
  clear hn h
  obtain ⟨nm, hnm⟩ : ∃ nm, nm = str name := ⟨_, rfl⟩
  rw [← hnm] at hk ⊢
  cases hg : get m.now name with
  | none =>
    rw [hg] at hk
    rw [show m.lose name = m by simp [M.lose, hg]]
    simp only [ptrV] at hk
    clear hg hf hnm
    go_enter Tryz.func103, Tryz.ntmps103
    go_wp2
    go_returns
    exact ⟨rfl, HH.out, World.grownBy.refl _ _⟩
  | some b =>
    rw [hg] at hk
    simp only [ptrV] at hk
    obtain ⟨hbq, ⟨v, hF, hO⟩, hle⟩ := hf b hg
    have hL : m.lose name = {m with named := m.named - (m.fl b).1.length, gone := m.gone + (m.fl b).1.length} := by simp [M.lose, hg]
    rw [hL]
    obtain ⟨A, c, rfl, _, _, _, _⟩ := hO.form
    have d0 := hF.cell0
    generalize hlen : (m.fl b).1.length = k at *
    have hw1 : IntKind.i64.wrap ((m.named : Int) - (k : Int)) = ((m.named - k : Nat) : Int) := by rw [IntKind.wrap_i64] <;> omega
    have hw2 : IntKind.i64.wrap ((m.gone : Int) + (k : Int)) = ((m.gone + k : Nat) : Int) := by rw [IntKind.wrap_i64] <;> omega
    have HS := Lib.hid ((HH.out.set (m' := {m with named := m.named - k}) (nv' := nv) (sv' := sv) (mv' := mv) 4 (.int .i64 ((m.named - k : Nat) : Int)) rfl).set (m' := {m with named := m.named - k, gone := m.gone + k}) (nv' := nv) (sv' := sv) (mv' := mv) 5 (.int .i64 ((m.gone + k : Nat) : Int)) rfl)
    have HG := Lib.hid ((grown_set w q 4 (.int .i64 ((m.named - k : Nat) : Int))).trans (grown_set _ q 5 (.int .i64 ((m.gone + k : Nat) : Int))))
    clear hg hf hnm hF hO hL hlen
    go_enter Tryz.func103, Tryz.ntmps103
    go_wp2
    refine wp_region_still_tail 12 (by kernel_rfl) (by kernel_rfl) ?_
    simp only [List.take_succ_cons, List.take_zero, List.drop_succ_cons, List.drop_zero]
    change wpStill _ _ w.drew (fun a' => wpList _ _ _ _ a' w.drew) _ _
    have h4 : w.drew.cell? ⟨q, 4, none⟩ = some (.int .i64 (m.named : Int)) := h4
    have h5 : w.drew.cell? ⟨q, 5, none⟩ = some (.int .i64 (m.gone : Int)) := h5
    have d0 : w.drew.cell? ⟨b, 0, none⟩ = _ := d0
    have f4 : w.drew.frozen? ⟨q, 4, none⟩ = false := f4
    have f5 : w.drew.frozen? ⟨q, 5, none⟩ = false := f5
    have G1 : w.grownBy (w.drew.setCell ⟨q, 4, none⟩ (.int .i64 ((m.named - k : Nat) : Int))) (some q) := grown_dset w q 4 _
    have S1 : ShAt (w.drew.setCell ⟨q, 4, none⟩ (.int .i64 ((m.named - k : Nat) : Int))) q {m with named := m.named - k} nv sv mv := (show ShAt w.drew q m nv sv mv from HH.out).set 4 _ rfl
    have c5 : (w.drew.setCell ⟨q, 4, none⟩ (.int .i64 ((m.named - k : Nat) : Int))).drew.cell? ⟨q, 5, none⟩ = some (.int .i64 (m.gone : Int)) := S1.cell 5
    have e5 : (w.drew.setCell ⟨q, 4, none⟩ (.int .i64 ((m.named - k : Nat) : Int))).drew.frozen? ⟨q, 5, none⟩ = false := S1.fz 5
    have e0 : (w.drew.setCell ⟨q, 4, none⟩ (.int .i64 ((m.named - k : Nat) : Int))).drew.cell? ⟨b, 0, none⟩ = some (.slice A k c) := (World.cell?_of_block (heap_setCell_other _ _ b _ hbq)).trans d0
    have G2 : w.grownBy ((w.drew.setCell ⟨q, 4, none⟩ (.int .i64 ((m.named - k : Nat) : Int))).drew.setCell ⟨q, 5, none⟩ (.int .i64 ((m.gone + k : Nat) : Int))) (some q) := G1.trans (grown_dset _ q 5 _)
    have S2 : ShAt ((w.drew.setCell ⟨q, 4, none⟩ (.int .i64 ((m.named - k : Nat) : Int))).drew.setCell ⟨q, 5, none⟩ (.int .i64 ((m.gone + k : Nat) : Int))) q {m with named := m.named - k, gone := m.gone + k} nv sv mv := (show ShAt (w.drew.setCell ⟨q, 4, none⟩ (.int .i64 ((m.named - k : Nat) : Int))).drew q _ nv sv mv from S1).set 5 _ rfl
    have G2 := Lib.hid G2
    have S2 := Lib.hid S2
    clear G1 S1
    generalize w.drew = wd at *
    generalize ((m.named - k : Nat) : Int) = x1 at *
    generalize ((m.gone + k : Nat) : Int) = x2 at *
    repeat still_step
    refine wpStill_nil ?_
    go_wp2
    refine wp_region_still_tail 12 (by kernel_rfl) (by kernel_rfl) ?_
    simp only [List.take_succ_cons, List.take_zero, List.drop_succ_cons, List.drop_zero]
    change wpStill _ _ (wd.setCell ⟨q, 4, none⟩ (.int .i64 x1)).drew (fun a' => wpList _ _ _ _ a' (wd.setCell ⟨q, 4, none⟩ (.int .i64 x1)).drew) _ _
    generalize (wd.setCell ⟨q, 4, none⟩ (.int .i64 x1)).drew = we at *
    repeat still_step
    refine wpStill_nil ?_
    go_wp2
    go_returns
    exact ⟨rfl, S2.out, G2.out⟩
end Go.Proofs.YtdbhgkbmbbjpdaaGreatDoor.Shf
namespace Go.Proofs.YtdbhgkbmbbjpdaaGreatDoor.Shf
open Go.ChangeShapes Go.WideShapes Go.ChangeAt Go.RowKit
theorem info67 : (Tryz.prog.info? 107).map (fun i => (i.zero, i.size, i.bytes)) = some (some (.agg #[.string ⟨#[]⟩, .string ⟨#[]⟩, .pointer none]), 3, 40) := by kernel_rfl
theorem box3_rows (V : World) (x y z : Value) : ∀ j u, [x, y, z][j]? = some u → (V.alloc (.cells #[x, y, z] 107)).cell? ((⟨V.heap.size, 0, none⟩ : Addr).add j) = some u := by
  intro j u hj
  rw [zero_add', cell_of_row _ _ j _ 107 (0, 0) (alloc1 V _)]
  simpa using hj
theorem do_mid (w V w1 : World) (q : Nat) (m : M) (mb : Option Nat) (sv mv : Value) (n : Nat) (v : Mv) (nb : Nat) (cs : Array Value) (hS : ShAt V q m (.map mb) sv mv) (hM : MvAt V mv m.moves) (hC : Chg w V (fun _ => False))
    (hbx : V.heap[w.heap.size]? = some (.cells cs 107 (0, 0))) (hq1 : mapBlock (.map mb) ≠ some q) (hq2 : mv.ownBlock ≠ some q) (hq3 : ∀ b, mapBlock (.map mb) = some b → mv.ownBlock ≠ some b)
    (N1 : NM w1 nb (n + 1) (v.on m.now)) (G1 : V.drew.grownBy w1 (mapBlock (.map mb))) (P1 : mapBlock (.map mb) = some nb ∨ V.drew.heap.size ≤ nb) (hwq : q < w.heap.size) (hwm : ∀ b, mapBlock (.map mb) = some b → b < w.heap.size) :
    ShAt (w1.setCell ⟨q, 1, none⟩ (.map (some nb))) q {m with now := v.on m.now} (.map (some nb)) sv mv ∧ NM (w1.setCell ⟨q, 1, none⟩ (.map (some nb))) nb (n + 1) (v.on m.now) ∧ MvAt (w1.setCell ⟨q, 1, none⟩ (.map (some nb))) mv m.moves ∧
      Chg w (w1.setCell ⟨q, 1, none⟩ (.map (some nb))) (fun k => k = q ∨ mapBlock (.map mb) = some k ∨ mv.ownBlock = some k) ∧ (w1.setCell ⟨q, 1, none⟩ (.map (some nb))).heap[w.heap.size]? = some (.cells cs 107 (0, 0)) ∧ (nb ≠ q ∧ mv.ownBlock ≠ some nb) ∧ w.heap.size < (w1.setCell ⟨q, 1, none⟩ (.map (some nb))).heap.size := by
  have C1 : Chg V w1 (fun k => mapBlock (.map mb) = some k) := ⟨G1.os, G1.tape, G1.output, G1.size, fun k hk hn => G1.block k hk (fun e => hn e.symm)⟩
  have hVw : w.heap.size < V.heap.size := (Array.getElem?_eq_some_iff.1 hbx).1
  have hnq : nb ≠ q := by
    rcases P1 with h | h
    · intro e; subst e; exact hq1 h
    · intro e; subst e; have : V.heap.size ≤ nb := h; omega
  have hnm : mv.ownBlock ≠ some nb := by
    rcases P1 with h | h
    · exact hq3 nb h
    · intro e; have h1 := hM.lt nb e; have : V.heap.size ≤ nb := h; omega
  have C2 : Chg V (w1.setCell ⟨q, 1, none⟩ (.map (some nb))) (fun k => k = q ∨ mapBlock (.map mb) = some k) := (C1.wide (fun _ _ h => Or.inr h)).andThen (chg_set w1 q 1 _) (fun _ _ h => Or.inl h)
  refine ⟨(hS.at C1 hq1).set 1 _ rfl, ?_, ?_, ?_, ?_, ⟨hnq, hnm⟩, Nat.lt_of_lt_of_le hVw C2.size⟩
  · exact N1.at (heap_setCell_other w1 ⟨q, 1, none⟩ nb _ hnq)
  · exact hM.at C2 (fun b hb h => by
      rcases h with h | h
      · exact hq2 (by rw [hb, h])
      · exact hq3 b h hb)
  · exact (hC.wide (R' := fun k => k = q ∨ mapBlock (.map mb) = some k ∨ mv.ownBlock = some k) (fun _ _ h => h.elim)).andThen C2 (fun i _ h => by
      rcases h with h | h
      · exact Or.inl h
      · exact Or.inr (Or.inl h))
  · exact (C2.block _ hVw (by
      rintro (h | h)
      · omega
      · have := hwm _ h; omega)).trans hbx
theorem do_cell (W w2 : World) (q : Nat) (m : M) (nv sv mv : Value) (o : Obj) (hA : ShAt W q m nv sv mv) (hq2 : mv.ownBlock ≠ some q) (hg : (W.drew.alloc o).grownBy w2 mv.ownBlock) : w2.cell? ⟨q, 3, none⟩ = some mv ∧ w2.frozen? ⟨q, 3, none⟩ = false := by
  have hlt := hA.lt
  have e : w2.heap[q]? = W.heap[q]? := (hg.block q (by simp; omega) (fun e => hq2 e.symm)).trans (Below.heap_alloc W.drew o q hlt)
  exact ⟨(World.cell?_of_block (a := ⟨q, 3, none⟩) e).trans (hA.cell 3), (World.frozen?_of_block (a := ⟨q, 3, none⟩) e).trans (hA.fz 3)⟩
theorem do_end (w W w2 : World) (q g cap : Nat) (m : M) (mb : Option Nat) (sv mv : Value) (n : Nat) (v : Mv) (nb : Nat) (pf : Value) (o : Obj) (hp : pf = ptrV v.f) (hA : ShAt W q {m with now := v.on m.now} (.map (some nb)) sv mv) (hN : NM W nb (n + 1) (v.on m.now))
    (hD : Chg w W (fun k => k = q ∨ mapBlock (.map mb) = some k ∨ mv.ownBlock = some k)) (_hM : MvAt W mv m.moves) (h6 : nb ≠ q ∧ mv.ownBlock ≠ some nb) (hq2 : mv.ownBlock ≠ some q) (hg : (W.drew.alloc o).grownBy w2 mv.ownBlock)
    (hown : w2.ownsRow 0 107 3 (.slice (some ⟨g, 0, none⟩) (m.moves.length + 1) cap) (m.moves.length + 1) (m.moves.flatMap mvC ++ [.string (str v.fr), .string (str v.to), pf])) (hat : mv.ownBlock = some g ∨ g = (W.drew.alloc o).heap.size) (hlt : w.heap.size < W.heap.size)
    (P : mapBlock (.map mb) = some nb ∨ w.heap.size ≤ nb) :
    ShAt (w2.setCell ⟨q, 3, none⟩ (.slice (some ⟨g, 0, none⟩) (m.moves.length + 1) cap)) q {m with now := v.on m.now, moves := m.moves ++ [v]} (.map (some nb)) sv (.slice (some ⟨g, 0, none⟩) (m.moves.length + 1) cap) ∧
    NM (w2.setCell ⟨q, 3, none⟩ (.slice (some ⟨g, 0, none⟩) (m.moves.length + 1) cap)) nb (n + 1) (v.on m.now) ∧ MvAt (w2.setCell ⟨q, 3, none⟩ (.slice (some ⟨g, 0, none⟩) (m.moves.length + 1) cap)) (.slice (some ⟨g, 0, none⟩) (m.moves.length + 1) cap) (m.moves ++ [v]) ∧
      (mapBlock (.map mb) = some nb ∨ w.heap.size ≤ nb) ∧ (∀ b, (Value.slice (some ⟨g, 0, none⟩) (m.moves.length + 1) cap).ownBlock = some b → mv.ownBlock = some b ∨ w.heap.size ≤ b) ∧ (Value.slice (some ⟨g, 0, none⟩) (m.moves.length + 1) cap).ownBlock ≠ some nb ∧ Chg w (w2.setCell ⟨q, 3, none⟩ (.slice (some ⟨g, 0, none⟩) (m.moves.length + 1) cap)) (fun k => k = q ∨ mapBlock (.map mb) = some k ∨ mv.ownBlock = some k) := by
  subst hp
  have hC1 : Chg W (W.drew.alloc o) (fun k => mv.ownBlock = some k) := ⟨rfl, rfl, rfl, by simp, fun k hk _ => Below.heap_alloc W.drew o k hk⟩
  have hC2 : Chg W w2 (fun k => mv.ownBlock = some k) := hC1.trans (chg_grown hg)
  have hC3 : Chg W (w2.setCell ⟨q, 3, none⟩ (.slice (some ⟨g, 0, none⟩) (m.moves.length + 1) cap)) (fun k => k = q ∨ mv.ownBlock = some k) := (hC2.wide (fun _ _ h => Or.inr h)).andThen (chg_set w2 q 3 _) (fun _ _ h => Or.inl h)
  have hgq : g ≠ q := by
    rcases hat with h | h
    · intro e; exact hq2 (by rw [h, e])
    · intro e; have := hA.lt; simp at h; omega
  have hgn : g ≠ nb := by
    rcases hat with h | h
    · intro e; exact h6.2 (by rw [h, e])
    · intro e; have := hN.lt; simp at h; omega
  refine ⟨(hA.at hC2 hq2).set 3 _ rfl, hN.at (hC3.block nb hN.lt (fun h => h.elim (fun h => h6.1 h) (fun h => h6.2 h))), ?_, P, ?_, ?_, ?_⟩
  · have e : (m.moves ++ [v]).length = m.moves.length + 1 := by simp
    have e2 : (m.moves ++ [v]).flatMap mvC = m.moves.flatMap mvC ++ [.string (str v.fr), .string (str v.to), ptrV v.f] := by simp [mvC]
    have h0 : MvAt w2 (.slice (some ⟨g, 0, none⟩) (m.moves.length + 1) cap) (m.moves ++ [v]) := by
      unfold MvAt; rw [e, e2]; exact hown
    exact h0.at (chg_set w2 q 3 _) (fun b hb h => by simp [Value.ownBlock] at hb; omega)
  · intro b hb
    simp [Value.ownBlock] at hb
    rcases hat with h | h
    · exact Or.inl (by rw [h, hb])
    · exact Or.inr (by simp at h; omega)
  · simp [Value.ownBlock]; exact hgn
  · exact hD.andThen hC3 (fun i _ h => by
      rcases h with h | h
      · exact Or.inl h
      · exact Or.inr (Or.inr h))
set_option maxRecDepth 4000 in
theorem do_mv (w : World) (q : Nat) (m : M) (nv sv mv : Value) (n : Nat) (v : Mv) (h : ShAt w q m nv sv mv) (hn : NMv w nv n m.now) (hm : MvAt w mv m.moves) (hn' : n < 1000000000000) (h1 : v.fr.length ≤ 1000000) (h2 : v.to.length ≤ 1000000)
    (hq1 : mapBlock nv ≠ some q) (hq2 : mv.ownBlock ≠ some q) (hq3 : ∀ b, mapBlock nv = some b → mv.ownBlock ≠ some b) (hml : m.moves.length < 1000000000) :
    Calls Tryz.prog 65 #[.pointer (some ⟨q, 0, none⟩), mvV v] w fun e w' => e = .returned (.tuple #[]) ∧ ∃ nb mv', ShAt w' q {m with now := v.on m.now, moves := m.moves ++ [v]} (.map (some nb)) sv mv' ∧ NM w' nb (n + 1) (v.on m.now) ∧ MvAt w' mv' (m.moves ++ [v]) ∧
      (mapBlock nv = some nb ∨ w.heap.size ≤ nb) ∧ (∀ b, mv'.ownBlock = some b → mv.ownBlock = some b ∨ w.heap.size ≤ b) ∧ mv'.ownBlock ≠ some nb ∧ Chg w w' (fun k => k = q ∨ mapBlock nv = some k ∨ mv.ownBlock = some k) := by
  obtain ⟨pf, hpfe⟩ : ∃ pf, pf = ptrV v.f := ⟨_, rfl⟩
  obtain ⟨V, hV⟩ : ∃ V, V = w.alloc (.cells #[.string (str v.fr), .string (str v.to), pf] 107) := ⟨_, rfl⟩
  have hC : Chg w V (fun _ => False) := by rw [hV]; exact chg_alloc w _ _
  have hbx : V.heap[w.heap.size]? = some (.cells #[.string (str v.fr), .string (str v.to), pf] 107 (0, 0)) := by rw [hV]; exact alloc1 w _
  have hS := h.at hC (fun h => h)
  have hN := hn.at hC (fun _ _ h => h)
  have hM := hm.at hC (fun _ _ h => h)
  have c54 := on_mv V.drew v nv n m.now hN hn' h1 h2
  have hqV := hS.lt
  obtain ⟨mb, rfl⟩ := hn.form
  have x1 : V.drew.cell? ⟨q, 1, none⟩ = some (.map mb) := hS.cell 1
  have xb : V.drew.heap[w.heap.size]? = some (.cells #[.string (str v.fr), .string (str v.to), pf] 107 (0, 0)) := hbx
  have xb0 : V.drew.cell? ⟨w.heap.size, 0, none⟩ = some (.string (str v.fr)) := (cell_of_row _ _ 0 _ 107 (0, 0) hbx).trans rfl
  have xb1 : V.drew.cell? ⟨w.heap.size, 1, none⟩ = some (.string (str v.to)) := (cell_of_row _ _ 1 _ 107 (0, 0) hbx).trans rfl
  have xb2 : V.drew.cell? ⟨w.heap.size, 2, none⟩ = some pf := (cell_of_row _ _ 2 _ 107 (0, 0) hbx).trans rfl
  have hbx' := Lib.hid hbx
  have hwq := h.lt
  have hwm := hn.lt
  have hpf : pf.oneCell' = true := by rw [hpfe]; cases v.f <;> rfl
  have HS := Lib.hid hS
  have HM := Lib.hid hM
  have HC := Lib.hid hC
  clear hS hN hM hC h hn hm hbx
  simp only [mvV, ← hpfe] at c54 ⊢
  have HP := Lib.hid hpfe
  clear hpfe
  go_enter Tryz.func65, Tryz.ntmps65
  go_wp2
  rw [← hV]
  clear hV
  go_region_with (go_at_call 81; refine c54.mono ?_; rintro e w1 ⟨nb, rfl, N1, G1, P1⟩; have y1 : w1.cell? ⟨q, 1, none⟩ = some (.map mb) := (World.cell?_of_block (G1.block q hqV (fun e => hq1 e.symm))).trans x1; have yf : w1.frozen? ⟨q, 1, none⟩ = false := (World.frozen?_of_block (G1.block q hqV (fun e => hq1 e.symm))).trans (HS.out.fz 1))
  all_goals
    go_wp2
    have A8 : mapBlock (.map mb) = some nb ∨ w.heap.size ≤ nb := P1.imp id (fun h => Nat.le_trans HC.out.size h)
    obtain ⟨A1, A2, A3, A4, A5, A6, A7⟩ := do_mid w V w1 q m mb sv mv n v nb _ HS.out HM.out HC.out hbx'.out hq1 hq2 hq3 N1 G1 P1 hwq hwm
    generalize w1.setCell ⟨q, 1, none⟩ (.map (some nb)) = W at *
    have m3 : W.cell? ⟨q, 3, none⟩ = some mv := A1.cell 3
    have x0 : W.cell? ⟨w.heap.size, 0, none⟩ = some (.string (str v.fr)) := (cell_of_row _ _ 0 _ 107 (0, 0) A5).trans rfl
    have x1 : W.cell? ⟨w.heap.size, 1, none⟩ = some (.string (str v.to)) := (cell_of_row _ _ 1 _ 107 (0, 0) A5).trans rfl
    have x2 : W.cell? ⟨w.heap.size, 2, none⟩ = some pf := (cell_of_row _ _ 2 _ 107 (0, 0) A5).trans rfl
    have hqW := A1.lt
    have HA := Lib.hid A1
    have HD := Lib.hid A4
    have HE := Lib.hid A2
    clear A1 A5 A2 A4 xb0 xb1 xb2 G1 N1 y1 yf HC HS HM hbx'
    obtain ⟨i0, hi, hz0, hz1, hz2⟩ := info_parts info67
    have hMW := A3
    unfold MvAt at hMW
    have hone : ∀ u ∈ [Value.string (str v.fr), .string (str v.to), pf], u.oneCell' = true := by
      intro u hu
      simp only [List.mem_cons, List.not_mem_nil, or_false] at hu
      rcases hu with rfl | rfl | rfl
      · rfl
      · rfl
      · exact hpf
    have HQ := Lib.hid (fun (w2 : World) (o : Obj) (hg : (W.drew.alloc o).grownBy w2 mv.ownBlock) => do_cell W w2 q _ _ sv mv o HA.out hq2 hg)
    go_region_law (first
      | (refine step_append_lies _ rfl _ _ 77 rfl 0 107 i0 _ 3 40 Tryz.underlying77 hi hz0 hz1 hz2 rfl (by decide) mv m.moves.length _ rfl (hMW.alloc _) ⟨W.heap.size, 0, none⟩ 1 1 [.string (str v.fr), .string (str v.to), pf] rfl rfl (box3_rows _ _ _ _) hone (by decide) (by unfold maxLen; omega) (by omega) (Nat.zero_le _) _ rfl ?_; intro g cap w2 hown hgrow hat hlt; obtain ⟨z1, z2⟩ := HQ.out _ _ hgrow))
    all_goals
      go_wp2
      go_returns
      exact ⟨rfl, _, _, do_end w W w2 q g cap m mb sv mv n v nb pf _ HP.out HA.out HE.out HD.out hMW A6 hq2 hgrow hown hat A7 A8⟩
end Go.Proofs.YtdbhgkbmbbjpdaaGreatDoor.Shf
namespace Go.Proofs.YtdbhgkbmbbjpdaaGreatDoor.Shf
open Go.ChangeShapes Go.WideShapes Go.ChangeAt Go.RowKit
theorem ages_succ (l : List (S × Nat)) (v : List Mv) (k : Nat) (h : k < v.length) : ages l (v.take (k + 1)) = v[k].on (ages l (v.take k)) := by
  unfold ages
  rw [List.take_add_one, List.getElem?_eq_getElem h, List.foldl_append]
  rfl
theorem mv_cell {w : World} {mv : Value} {l : List Mv} (h : MvAt w mv l) (k : Nat) (hk : k < l.length) : ∃ g cap, mv = .slice (some ⟨g, 0, none⟩) l.length cap ∧ l.length ≤ cap ∧
    w.cell? ⟨g, k * 3, none⟩ = some (.string (str l[k].fr)) ∧ w.cell? ⟨g, k * 3 + 1, none⟩ = some (.string (str l[k].to)) ∧ w.cell? ⟨g, k * 3 + 2, none⟩ = some (ptrV l[k].f) := by
  obtain ⟨h1, h2⟩ := id h
  have hx : ∀ i, i < 3 → (l.flatMap mvC)[k * 3 + i]? = (mvC l[k])[i]? := by
    intro i hi
    clear h h1 h2
    induction l generalizing k with
    | nil => simp at hk
    | cons v l ih =>
      cases k with
      | zero => simp [List.getElem?_append_left, show i < (mvC v).length by simp [mvC]; omega]
      | succ k =>
        simp only [List.flatMap_cons, List.getElem_cons_succ]
        rw [List.getElem?_append_right (by simp [mvC]; omega), show (k + 1) * 3 + i - (mvC v).length = k * 3 + i by simp [mvC]; omega]
        exact ih k (by simpa using hk)
  rcases h2 with ⟨_, h0⟩ | ⟨g, cap, cur, rfl, hb, hg, hn, hm, hs, ht⟩
  · omega
  · refine ⟨g, cap, rfl, hn, ?_⟩
    have hc : ∀ i, i < 3 → w.cell? ⟨g, k * 3 + i, none⟩ = (mvC l[k])[i]? := by
      intro i hi
      rw [cell_of_row w g _ _ 107 (0, 0) hg, ← hx i hi, ← ht, List.getElem?_take_of_lt (by omega)]
      simp
    exact ⟨hc 0 (by omega), hc 1 (by omega), hc 2 (by omega)⟩
def Stl (w wr : World) (q : Nat) (m : M) (nv sv mv : Value) (ns k : Nat) : Prop := ∃ sv', ShAt wr q {m with safe := ages m.safe (m.moves.take k)} nv sv' mv ∧ NMv wr sv' (ns + k) (ages m.safe (m.moves.take k)) ∧ MvAt wr mv m.moves ∧
  (∀ b, mapBlock sv' = some b → mapBlock sv = some b ∨ w.heap.size ≤ b) ∧ Chg w wr (fun k => k = q ∨ mapBlock sv = some k)
theorem stl_step (w wr V w1 : World) (q : Nat) (m : M) (nv sv : Value) (mb : Option Nat) (mv : Value) (ns k nb : Nat) (hk : k < m.moves.length) (S1 : ShAt wr q {m with safe := ages m.safe (m.moves.take k)} nv (.map mb) mv) (S3 : MvAt wr mv m.moves)
    (S4 : ∀ b, mapBlock (.map mb) = some b → mapBlock sv = some b ∨ w.heap.size ≤ b) (S5 : Chg w wr (fun k => k = q ∨ mapBlock sv = some k)) (hV : Chg wr V (fun _ => False)) (hq1 : mapBlock sv ≠ some q) (hq2 : mv.ownBlock ≠ some q) (hq3 : ∀ b, mapBlock sv = some b → mv.ownBlock ≠ some b) (hqw : q < w.heap.size) (hmw : ∀ b, mv.ownBlock = some b → b < w.heap.size)
    (N1 : NM w1 nb (ns + k + 1) (m.moves[k].on (ages m.safe (m.moves.take k)))) (G1 : V.drew.grownBy w1 (mapBlock (.map mb))) (P1 : mapBlock (.map mb) = some nb ∨ V.drew.heap.size ≤ nb) :
    Stl w (w1.setCell ⟨q, 2, none⟩ (.map (some nb))) q m nv sv mv ns (k + 1) := by
  have hVs : wr.heap.size ≤ V.heap.size := hV.size
  have hws := S5.size
  have hmq : mapBlock (.map mb) ≠ some q := by
    intro e
    rcases S4 q e with h | h
    · exact hq1 h
    · omega
  have hmm : ∀ b, mapBlock (.map mb) = some b → mv.ownBlock ≠ some b := by
    intro b e
    rcases S4 b e with h | h
    · exact hq3 b h
    · intro e2; have := hmw b e2; omega
  have C1 : Chg wr w1 (fun k => mapBlock (.map mb) = some k) := (hV.wide (fun _ _ h => h.elim)).trans ⟨G1.os, G1.tape, G1.output, G1.size, fun k hk hn => G1.block k hk (fun e => hn e.symm)⟩
  have hP : mapBlock (.map mb) = some nb ∨ wr.heap.size ≤ nb := P1.imp id (fun h => Nat.le_trans hVs h)
  have hnq : nb ≠ q := by
    rcases hP with h | h
    · intro e; subst e; exact hmq h
    · omega
  have C2 : Chg wr (w1.setCell ⟨q, 2, none⟩ (.map (some nb))) (fun k => k = q ∨ mapBlock (.map mb) = some k) := (C1.wide (fun _ _ h => Or.inr h)).andThen (chg_set w1 q 2 _) (fun _ _ h => Or.inl h)
  refine ⟨.map (some nb), ?_, ?_, ?_, ?_, ?_⟩
  · exact (S1.at C1 hmq).set 2 _ rfl
  · refine Or.inr ⟨nb, rfl, ?_⟩
    rw [ages_succ _ _ _ hk]
    exact N1.at (heap_setCell_other w1 ⟨q, 2, none⟩ nb _ hnq)
  · exact S3.at C2 (fun b hb h => by
      rcases h with h | h
      · exact hq2 (by rw [hb, h])
      · exact hmm b h hb)
  · intro b hb
    obtain rfl : nb = b := by simpa [mapBlock] using hb
    rcases hP with h | h
    · exact S4 nb h
    · exact Or.inr (by omega)
  · exact S5.andThen C2 (fun i hi h => by
      rcases h with h | h
      · exact Or.inl h
      · rcases S4 i h with h | h
        · exact Or.inr h
        · omega)
set_option maxRecDepth 4000 in
theorem settle_any (w : World) (q : Nat) (m : M) (nv sv mv : Value) (ns n : Nat) (h : ShAt w q m nv sv mv) (hs : NMv w sv ns m.safe) (hm : MvAt w mv m.moves) (hn : n ≤ m.moves.length) (hns : ns + n < 1000000000000) (hml : m.moves.length < 1000000000000)
    (hlen : ∀ v ∈ m.moves, v.fr.length ≤ 1000000 ∧ v.to.length ≤ 1000000) (hq1 : mapBlock sv ≠ some q) (hq2 : mv.ownBlock ≠ some q) (hq3 : ∀ b, mapBlock sv = some b → mv.ownBlock ≠ some b) :
    Calls Tryz.prog 46 #[.pointer (some ⟨q, 0, none⟩), .int .i64 (n : Int)] w fun e w' => e = .returned (.tuple #[]) ∧ ∃ sv', ShAt w' q {m with safe := ages m.safe (m.moves.take n), moves := [], gone := 0} nv sv' (.slice none 0 0) ∧ NMv w' sv' (ns + n) (ages m.safe (m.moves.take n)) ∧
      (∀ b, mapBlock sv' = some b → mapBlock sv = some b ∨ w.heap.size ≤ b) ∧ Chg w w' (fun k => k = q ∨ mapBlock sv = some k) := by
  have m3 : w.cell? ⟨q, 3, none⟩ = some mv := h.cell 3
  have f3 := h.fz 3
  have hform : ∃ A c, mv = .slice A m.moves.length c ∧ m.moves.length ≤ c ∧ (0 < n → ∃ g, A = some ⟨g, 0, none⟩) := by
    obtain ⟨h1, h2⟩ := hm
    rcases h2 with ⟨rfl, h0⟩ | ⟨g, cap, cur, rfl, hb, hg, hnn, _⟩
    · exact ⟨none, 0, by rw [h0], by omega, fun h => by omega⟩
    · exact ⟨_, cap, rfl, hnn, fun _ => ⟨g, rfl⟩⟩
  obtain ⟨A, c, rfl, hc, hA⟩ := hform
  have hnc : (n : Int) ≤ (c : Int) := by omega
  have hqw := h.lt
  have hmw := hm.lt
  have HSH := Lib.hid h
  have HNM := Lib.hid hs
  have HMV := Lib.hid hm
  clear h hs hm
  obtain ⟨L, hL⟩ : ∃ L, L = m.moves.length := ⟨_, rfl⟩
  rw [← hL] at m3 hc hn hml
  have HL := Lib.hid hL
  clear hL
  rcases Nat.eq_zero_or_pos n with h0 | h0
  · subst h0
    have c5 : w.cell? ⟨q, 5, none⟩ = some (.int .i64 (m.gone : Int)) := HSH.out.cell 5
    have f5 := HSH.out.fz 5
    have HS := Lib.hid ((HSH.out.set (m' := {m with moves := []}) (nv' := nv) (sv' := sv) (mv' := .slice none 0 0) 3 (.slice none 0 0) rfl).set (m' := {m with moves := [], gone := 0}) (nv' := nv) (sv' := sv) (mv' := .slice none 0 0) 5 (.int .i64 0) rfl)
    have HQ := Lib.hid ((chg_set w q 3 (.slice none 0 0)).trans (chg_set _ q 5 (.int .i64 0)))
    have hcc : (0 : Int) ≤ (c : Int) := by omega
    go_enter Tryz.func46, Tryz.ntmps46
    go_wp2
    go_loopw [13] (fun i wr => i = .int .i64 0 ∧ wr = w) (fun i _ => 0)
    case atStart => exact ⟨rfl, rfl⟩
    case round =>
      obtain ⟨rfl, rfl⟩ := hrel
      go_wp2
      go_returns
      exact ⟨rfl, sv, HS.out, HNM.out.at HQ.out (fun b hb e => by subst e; exact hq1 hb), fun b hb => Or.inl hb, HQ.out.wide (fun _ _ h => Or.inl h)⟩
  · obtain ⟨g, rfl⟩ := hA h0
    go_enter Tryz.func46, Tryz.ntmps46
    go_wp2
    go_loopw [13] (fun i wr => ∃ k : Nat, k ≤ n ∧ i = .int .i64 k ∧ Stl w wr q m nv sv (.slice (some ⟨g, 0, none⟩) m.moves.length c) ns k) (fun i _ => n - (intOf i).toNat)
    case atStart => exact ⟨0, by omega, rfl, sv, HSH.out, HNM.out, HMV.out, fun b hb => Or.inl hb, Chg.refl _ _⟩
    case round =>
      obtain ⟨k, hk, rfl, sv', S1, S2, S3, S4, S5⟩ := hrel
      by_cases hlt : k < n
      · obtain ⟨_, _, e, _, d0, d1, d2⟩ := mv_cell S3 k (by have := HL.out; omega)
        obtain ⟨rfl, rfl⟩ : _ = g ∧ _ = c := by simp at e; exact ⟨e.1.symm, e.2.symm⟩
        have hkl : k < m.moves.length := by have := HL.out; omega
        have hkL : (k : Int) < (L : Int) := by omega
        have hkn : (k : Int) < (n : Int) := by omega
        obtain ⟨v1, v2⟩ := hlen m.moves[k] (List.getElem_mem _)
        obtain ⟨mb, rfl⟩ := S2.form
        have hmq : mapBlock (.map mb) ≠ some q := by
          intro e
          rcases S4 q e with h | h
          · exact hq1 h
          · omega
        have hFQ : ∀ (V w1 : World), V.drew.cell? ⟨q, 2, none⟩ = some (.map mb) → V.frozen? ⟨q, 2, none⟩ = false → q < V.heap.size → V.drew.grownBy w1 (mapBlock (.map mb)) → w1.cell? ⟨q, 2, none⟩ = some (.map mb) ∧ w1.frozen? ⟨q, 2, none⟩ = false :=
          fun V w1 h1 h2 h3 hg => by
            have e : w1.heap[q]? = V.drew.heap[q]? := hg.block q h3 (fun e => hmq e.symm)
            exact ⟨(World.cell?_of_block (a := ⟨q, 2, none⟩) e).trans h1, (World.frozen?_of_block (a := ⟨q, 2, none⟩) e).trans h2⟩
        have c54 := fun (V : World) (hV : Chg wr V (fun _ => False)) => on_mv V.drew m.moves[k] (.map mb) (ns + k) (ages m.safe (m.moves.take k)) (S2.at hV.drew (fun _ _ h => h)) (by omega) v1 v2
        obtain ⟨p, hp⟩ : ∃ p, ptrV m.moves[k].f = .pointer p := by cases m.moves[k].f <;> exact ⟨_, rfl⟩
        have hst := fun (V w1 : World) (nb : Nat) => stl_step w wr V w1 q m nv sv mb _ ns k nb hkl S1 S3 S4 S5
        rw [hp] at d2
        simp only [mvV, hp] at c54
        have c2 : wr.cell? ⟨q, 2, none⟩ = some (.map mb) := S1.cell 2
        have f2 : wr.frozen? ⟨q, 2, none⟩ = false := S1.fz 2
        have hqr := S1.lt
        have HC := Lib.hid c54
        have HT := Lib.hid hst
        clear hst c54 S1 S2 S3 S4 S5 hp
        generalize str m.moves[k].fr = t1 at *
        generalize str m.moves[k].to = t2 at *
        go_wp2
        have hV := chg_alloc wr (.cells #[.string t1, .string t2, .pointer p] 107) (fun _ => False)
        have hbx := alloc1 wr (.cells #[.string t1, .string t2, .pointer p] 107)
        have x0 := (cell_of_row _ _ 0 _ 107 (0, 0) hbx).trans (show _ = some (.string t1) from rfl)
        have x1 := (cell_of_row _ _ 1 _ 107 (0, 0) hbx).trans (show _ = some (.string t2) from rfl)
        have x2 := (cell_of_row _ _ 2 _ 107 (0, 0) hbx).trans (show _ = some (.pointer p) from rfl)
        have y2 : (wr.alloc (.cells #[.string t1, .string t2, .pointer p] 107)).cell? ⟨q, 2, none⟩ = some (.map mb) := (World.cell?_of_block (a := ⟨q, 2, none⟩) (hV.block q hqr (fun h => h))).trans c2
        have g2 : (wr.alloc (.cells #[.string t1, .string t2, .pointer p] 107)).frozen? ⟨q, 2, none⟩ = false := (World.frozen?_of_block (a := ⟨q, 2, none⟩) (hV.block q hqr (fun h => h))).trans f2
        have hqV : q < (wr.alloc (.cells #[.string t1, .string t2, .pointer p] 107)).heap.size := Nat.lt_of_lt_of_le hqr hV.size
        generalize wr.alloc (.cells #[.string t1, .string t2, .pointer p] 107) = V at *
        have HV := Lib.hid hV
        have cV := HC.out V hV
        have HF := Lib.hid hFQ
        clear hbx d0 d1 d2 c2 f2 hV HC hFQ
        have x0 : V.drew.cell? ⟨wr.heap.size, 0, none⟩ = some (.string t1) := x0
        have x1 : V.drew.cell? ⟨wr.heap.size, 1, none⟩ = some (.string t2) := x1
        have x2 : V.drew.cell? ⟨wr.heap.size, 2, none⟩ = some (.pointer p) := x2
        have y2 : V.drew.cell? ⟨q, 2, none⟩ = some (.map mb) := y2
        go_region_with (go_at_call 81; refine cV.mono ?_; rintro e w1 ⟨nb, rfl, N1, G1, P1⟩; obtain ⟨z2, zf⟩ := HF.out V w1 y2 g2 hqV G1)
        all_goals
          go_wp2
          exact ⟨⟨k + 1, by omega, by simp, HT.out V w1 nb HV.out hq1 hq2 hq3 hqw hmw N1 G1 P1⟩, by simp [intOf]; omega⟩
      · obtain rfl : k = n := by omega
        have d3 : wr.cell? ⟨q, 3, none⟩ = some _ := S1.cell 3
        have d5 : wr.cell? ⟨q, 5, none⟩ = some (.int .i64 (m.gone : Int)) := S1.cell 5
        have e3 := S1.fz 3
        have e5 := S1.fz 5
        have HS := Lib.hid ((S1.set (m' := {m with safe := ages m.safe (m.moves.take k), moves := []}) (nv' := nv) (sv' := sv') (mv' := .slice none 0 0) 3 (.slice none 0 0) rfl).set (m' := {m with safe := ages m.safe (m.moves.take k), moves := [], gone := 0}) (nv' := nv) (sv' := sv') (mv' := .slice none 0 0) 5 (.int .i64 0) rfl)
        have HQ := Lib.hid ((chg_set wr q 3 (.slice none 0 0)).trans (chg_set _ q 5 (.int .i64 0)))
        have H2 := Lib.hid S2
        have H5 := Lib.hid S5
        have H4 := Lib.hid S4
        have hnq : ∀ b, mapBlock sv' = some b → b ≠ q := by
          intro b hb e
          subst e
          rcases S4 b hb with h | h
          · exact hq1 h
          · omega
        have hkk : ¬ ((k : Int) < (k : Int)) := by omega
        clear S1 S2 S3 S4 S5
        go_wp2
        go_returns
        exact ⟨rfl, sv', HS.out, H2.out.at HQ.out hnq, H4.out, H5.out.andThen HQ.out (fun _ _ h => Or.inl h)⟩
end Go.Proofs.YtdbhgkbmbbjpdaaGreatDoor.Shf
