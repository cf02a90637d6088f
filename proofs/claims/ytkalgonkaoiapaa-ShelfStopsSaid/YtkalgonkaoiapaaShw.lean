/- A shelf in memory: its block, its maps of names, its moves, its files and their bytes. -/
import Derived.Test.YtkalgonkaoiapaaShm
import Derived.WalkKit
import Derived.ProofKit
import Derived.OpenShut
import Derived.Below
import Derived.Lib.Hide
import Derived.Maps.OwnSet
import Derived.Maps.AppendAt
import Derived.Maps.RangeWalk
import Derived.Laws.OwnMore
import Derived.Laws.AppendOwnNone
import Derived.Deep.OwnRows
import Derived.OwnWalk
import Derived.StillTailTactics
import Derived.Laws.CopyRow
namespace Go.Proofs.Ytkalgonkaoiapaa.Shf
open Go.ChangeShapes Go.WideShapes Go.ChangeAt Go.RowKit

def b8 (b : UInt8) : Value := .int .u8 (b.toNat : Int)
/-- Bytes as a string. -/
def str (l : List UInt8) : ByteArray := ⟨l.toArray⟩
theorem str_size (l : List UInt8) : (str l).size = l.length := rfl
theorem str_data (l : List UInt8) : (str l).data.toList = l := rfl
theorem str_inj {a b : List UInt8} (h : str a = str b) : a = b := by
  have := congrArg (fun s : ByteArray => s.data.toList) h
  simpa [str] using this
def ptrV (o : Option Nat) : Value := match o with | none => .pointer none | some b => .pointer (some ⟨b, 0, none⟩)
/-- How a map's element reads: a pointer to a block. -/
def ptrR : Value → Option (DataW Unit × List MemPlace)
  | .pointer (some ⟨b, 0, none⟩) => some (.lit (.int .i64 b), [])
  | _ => none
theorem ptrR_mk (b : Nat) : ptrR (.pointer (some ⟨b, 0, none⟩)) = some (.lit (.int .i64 b), []) := rfl
theorem ptrR_inv {v : Value} {y : DataW Unit × List MemPlace} (h : ptrR v = some y) : ∃ b : Nat, v = .pointer (some ⟨b, 0, none⟩) ∧ y = (.lit (.int .i64 b), []) := by
  unfold ptrR at h
  split at h
  · rename_i b; exact ⟨b, rfl, by simpa using h.symm⟩
  · cases h
theorem law : Go.Maps.Keyed Try.prog 9 := Go.Maps.string_keyed Try.underlying9
theorem zero62 (w : World) : (zeroValue 62).run Try.prog w = .ok (.pointer none) w := by kernel_rfl
theorem key9 (s : List UInt8) (h : s.length ≤ 1000000) : keyOf Try.prog 9 (.string (str s)) = some (.string s) := by
  rw [Go.WideMaps.keyOf_string_mk Try.underlying9 (by rw [str_size]; unfold maxLen; omega), str_data]
def atV (o : Option Nat) (z : DataW Unit) : DataW Unit := match o with | none => z | some c => .lit (.int .i64 c)
theorem atV_inj {o p : Option Nat} (h : ∀ z, atV o z = atV p z) : o = p := by
  cases o with
  | none => cases p with
    | none => rfl
    | some c => have := h .nil; simp [atV] at this
  | some b => cases p with
    | none => have := h .nil; simp [atV] at this
    | some c => have := h .nil; simp [atV] at this; exact congrArg some (by omega)
/-- Block b is a map of at most n entries that holds just these files under these names. -/
def NM (w : World) (b n : Nat) (l : List (S × Nat)) : Prop := ∃ D : DataW Unit, w.ownsMap Try.prog 9 ptrR b n D ∧ ∀ s z, D.atKey (.string s) z = atV (get l s) z
theorem NM.kept {w w' : World} {b n : Nat} {l : List (S × Nat)} {row : Option Nat} (h : NM w b n l) (hg : w.grownBy w' row) (hne : some b ≠ row) : NM w' b n l := by
  obtain ⟨D, h1, h2⟩ := h; exact ⟨D, h1.kept hg hne, h2⟩
theorem NM.lt {w : World} {b n : Nat} {l : List (S × Nat)} (h : NM w b n l) : b < w.heap.size := by obtain ⟨D, h1, _⟩ := h; exact h1.lt
theorem NM.same {w : World} {b n : Nat} {l l' : List (S × Nat)} (h : NM w b n l) (hl : ∀ s, get l s = get l' s) : NM w b n l' := by
  obtain ⟨D, h1, h2⟩ := h; exact ⟨D, h1, fun s z => by rw [← hl]; exact h2 s z⟩
theorem NM.made (w : World) : NM (w.alloc (.map #[] 0)) w.heap.size 0 [] := ⟨_, World.ownsMap_made w Try.prog 9 ptrR, fun s z => by simp [DataW.atKey, get, atV]⟩
theorem NM.look {w : World} {b n : Nat} {l : List (S × Nat)} (h : NM w b n l) {s : S} (hs : s.length ≤ 1000000) :
    (Instr.lookup 58 (.map (some b)) (.string (str s)) false).run Try.prog w = .ok (ptrV (get l s)) w := by
  obtain ⟨D, h1, h2⟩ := h
  obtain ⟨es, clock, hb, F, _, rfl⟩ := h1
  rcases Maps.fit_look false law Try.underlying58 (zero62 w) hb F (key9 s hs) with ⟨hrun, _, hat⟩ | ⟨e0, y, _, _, hrun, hRv, hat, _⟩
  · rw [hrun]
    have : get l s = none := atV_inj (p := none) fun z => by rw [← h2 s z]; exact hat z
    rw [this]; rfl
  · rw [hrun]
    obtain ⟨c, e1, e2⟩ := ptrR_inv hRv
    have : get l s = some c := atV_inj (p := some c) fun z => by rw [← h2 s z, hat z, e2]; rfl
    rw [this, if_neg (by simp), e1]; rfl
theorem keylit (s : S) : WideAt.IsKeyLit (.string s) := trivial
theorem NM.put {w : World} {b n : Nat} {l : List (S × Nat)} (h : NM w b n l) {s : S} (hs : s.length ≤ 1000000) (c : Nat) (hn : n < maxLen) :
    ∃ w', (Instr.mapUpdate 58 (.map (some b)) (.string (str s)) (.pointer (some ⟨c, 0, none⟩))).run Try.prog w = .ok () w' ∧ NM w' b (n + 1) (wi l s c) ∧ w.grownBy w' (some b) := by
  obtain ⟨D, h1, h2⟩ := h
  obtain ⟨w', hr, ho, hg⟩ := h1.update law Try.underlying58 hn (key9 s hs) (ptrR_mk c)
  refine ⟨w', hr, ⟨_, ho, fun t z => ?_⟩, hg⟩
  rw [get_wi]
  by_cases e : t = s
  · subst e
    rw [Maps.atKey_put_same h1.isMap (keylit t)]; simp [atV]
  · rw [Maps.atKey_put_other (by intro e'; apply e; injection e'), h2, if_neg e]
theorem NM.del {w : World} {b n : Nat} {l : List (S × Nat)} (h : NM w b n l) {s : S} (hs : s.length ≤ 1000000) (ty : TypeId) :
    ∃ w', (Builtin.delete_ #[58, 9] ty #[.map (some b), .string (str s)]).run Try.prog w = .ok (.tuple #[]) w' ∧ NM w' b n (wo l s) ∧ w.grownBy w' (some b) := by
  obtain ⟨D, h1, h2⟩ := h
  obtain ⟨w', hr, ho, hg⟩ := h1.drop law Try.underlying58 (key9 s hs) ty
  refine ⟨w', hr, ⟨_, ho, fun t z => ?_⟩, hg.grown⟩
  rw [get_wo]
  by_cases e : t = s
  · subst e
    rw [Maps.atKey_del_same]; simp [atV]
  · rw [Maps.atKey_del_other (by intro e'; apply e; injection e'), h2, if_neg e]
/-- A map's value: nil, or a block. -/
def NMv (w : World) (v : Value) (n : Nat) (l : List (S × Nat)) : Prop := (v = .map none ∧ l = []) ∨ ∃ b, v = .map (some b) ∧ NM w b n l
def mapBlock : Value → Option Nat
  | .map m => m
  | _ => none
theorem NMv.kept {w w' : World} {v : Value} {n : Nat} {l : List (S × Nat)} {row : Option Nat} (h : NMv w v n l) (hg : w.grownBy w' row) (hne : ∀ b, mapBlock v = some b → some b ≠ row) : NMv w' v n l := by
  rcases h with h | ⟨b, rfl, h⟩
  · exact Or.inl h
  · exact Or.inr ⟨b, rfl, h.kept hg (hne b rfl)⟩
theorem NMv.form {w : World} {v : Value} {n : Nat} {l : List (S × Nat)} (h : NMv w v n l) : ∃ mb, v = .map mb := by
  rcases h with ⟨rfl, _⟩ | ⟨b, rfl, _⟩ <;> exact ⟨_, rfl⟩
theorem NMv.lt {w : World} {v : Value} {n : Nat} {l : List (S × Nat)} (h : NMv w v n l) : ∀ b, mapBlock v = some b → b < w.heap.size := by
  rcases h with ⟨rfl, _⟩ | ⟨b, rfl, h⟩
  · intro b h; cases h
  · intro c hc; cases hc; exact h.lt
theorem NMv.look {w : World} {v : Value} {n : Nat} {l : List (S × Nat)} (h : NMv w v n l) {s : S} (hs : s.length ≤ 1000000) :
    (Instr.lookup 58 v (.string (str s)) false).run Try.prog w = .ok (ptrV (get l s)) w := by
  rcases h with ⟨rfl, rfl⟩ | ⟨b, rfl, h⟩
  · exact Maps.look_nil false law Try.underlying58 (zero62 w) (key9 s hs)
  · exact h.look hs

/-- Bytes of the shelf's own: a slice that may be shorter than its block. -/
def Own (w : World) (v : Value) (l : List UInt8) : Prop := (v = .slice none 0 0 ∧ l = []) ∨
  ∃ g cap cur, v = .slice (some ⟨g, 0, none⟩) l.length cap ∧ w.heap[g]? = some (.cells cur 5 (0, 0)) ∧ l.length ≤ cap ∧ cap ≤ maxLen ∧ cap ≤ cur.size ∧ cur.toList.take l.length = l.map b8
theorem Own.kept {w w' : World} {v : Value} {l : List UInt8} {row : Option Nat} (h : Own w v l) (hg : w.grownBy w' row) (hne : ∀ b, v.ownBlock = some b → some b ≠ row) : Own w' v l := by
  rcases h with h | ⟨g, cap, cur, rfl, hb, h⟩
  · exact Or.inl h
  · have hlt : g < w.heap.size := (Array.getElem?_eq_some_iff.1 hb).1
    exact Or.inr ⟨g, cap, cur, rfl, (hg.block g hlt (hne g rfl)).trans hb, h⟩
theorem Own.lt {w : World} {v : Value} {l : List UInt8} (h : Own w v l) : ∀ b, v.ownBlock = some b → b < w.heap.size := by
  rcases h with ⟨rfl, _⟩ | ⟨g, cap, cur, rfl, hb, h⟩
  · intro b h; cases h
  · intro b h; cases h; exact (Array.getElem?_eq_some_iff.1 hb).1
/-- A slice's cells read as these bytes. -/
def Rd (w : World) (A : Option Addr) (l : List UInt8) : Prop := 0 < l.length → ∃ ad : Addr, A = some ad ∧ ∀ j (hj : j < l.length), w.cell? (ad.add j) = some (b8 l[j])
theorem block_add (a : Addr) (n : Nat) : (a.add n).block = a.block := by unfold Addr.add; split <;> rfl
theorem zero_add' (g j : Nat) : (⟨g, 0, none⟩ : Addr).add j = ⟨g, j, none⟩ := by
  unfold Addr.add; split <;> simp_all
theorem Own.form {w : World} {v : Value} {l : List UInt8} (h : Own w v l) : ∃ A c, v = .slice A l.length c ∧ Rd w A l ∧ l.length ≤ c ∧ (A = none → c = 0) ∧ (∀ ad, A = some ad → v.ownBlock = some ad.block) := by
  rcases h with ⟨rfl, rfl⟩ | ⟨g, cap, cur, rfl, hb, h1, h2, h3, h4⟩
  · exact ⟨none, 0, rfl, fun h => by simp at h, Nat.le_refl _, fun _ => rfl, fun _ h => by cases h⟩
  · refine ⟨_, cap, rfl, fun h0 => ⟨_, rfl, fun j hj => ?_⟩, h1, (fun h => by cases h), (fun ad h => by cases h; rfl)⟩
    rw [zero_add', cell_of_row w g j _ 5 (0, 0) hb]
    have : (cur.toList.take l.length)[j]? = (l.map b8)[j]? := by rw [h4]
    rw [List.getElem?_take_of_lt hj] at this
    simpa [hj] using this
theorem info5 : (Try.prog.info? 5).map (fun i => (i.zero, i.size, i.bytes)) = some (some (.int .u8 0), 1, 1) := by kernel_rfl
theorem one_b8 (l : List UInt8) : ∀ v ∈ l.map b8, v.oneCell' = true := by
  intro v hv
  obtain ⟨b, _, rfl⟩ := List.mem_map.1 hv
  rfl
theorem Rd.src {w : World} {A : Option Addr} {l : List UInt8} (h : Rd w A l) (h0 : 0 < l.length) : ∃ ad, A = some ad ∧ ∀ j v, (l.map b8)[j]? = some v → w.cell? (ad.add j) = some v := by
  obtain ⟨ad, e, hc⟩ := h h0
  refine ⟨ad, e, fun j v hv => ?_⟩
  obtain ⟨hj, rfl⟩ := List.getElem?_eq_some_iff.1 hv
  simp at hj
  rw [hc j hj]; simp
/-- append. -/
theorem Own.app {w : World} {v : Value} {l r : List UInt8} (h : Own w v l) (ty : TypeId) {A : Option Addr} {c : Nat} (hr : Rd w A r) (hA : A = none → c = 0) (hlen : l.length + r.length ≤ 100000000000) :
    ∃ v' w', (Builtin.append_ #[22, 22] ty #[v, .slice A r.length c]).run Try.prog w = .ok v' w' ∧ Own w' v' (l ++ r) ∧ w.grownBy w' v.ownBlock ∧ (v'.ownBlock = v.ownBlock ∨ v'.ownBlock = some w.heap.size) := by
  obtain ⟨i0, hi, hz0, hz1, hz2⟩ := info_parts info5
  have hlen' : (l.map b8 ++ r.map b8).length = (l ++ r).length := by simp
  have grown : ∀ (old : Nat) (row : Option Nat),
      Own (w.drew.alloc (.cells ((l.map b8).toArray ++ (r.map b8).toArray ++ Builtin.zeroCells (Value.int .u8 0).cells (grownCap w (l.length + r.length) old 5 - (l.length + r.length))) 5)) (.slice (some ⟨w.heap.size, 0, none⟩) (l.length + r.length) (grownCap w (l.length + r.length) old 5)) (l ++ r) ∧
      w.grownBy (w.drew.alloc (.cells ((l.map b8).toArray ++ (r.map b8).toArray ++ Builtin.zeroCells (Value.int .u8 0).cells (grownCap w (l.length + r.length) old 5 - (l.length + r.length))) 5)) row := by
    intro old row
    have hge := grownCap_ge w (l.length + r.length) old 5
    have hcm : grownCap w (l.length + r.length) old 5 ≤ maxLen := grownCap_le_maxLen w (l.length + r.length) old 5 (by unfold maxLen; omega)
    refine ⟨Or.inr ⟨w.heap.size, _, _, by simp, heap_alloc_new w.drew _, by simpa using hge, hcm, ?_, ?_⟩, ⟨rfl, rfl, rfl, by simp, fun k hk _ => Below.heap_alloc w.drew _ k hk⟩⟩
    · simp only [Array.size_append, List.size_toArray, List.length_map, size_zeroCells, show (Value.int IntKind.u8 0).cells.size = 1 from rfl]
      omega
    · simp only [Array.toList_append, List.append_assoc]
      rw [← List.append_assoc, ← hlen', List.map_append]
      exact List.take_left
  rcases Nat.eq_zero_or_pos r.length with h0 | h0
  · obtain rfl : r = [] := List.eq_nil_of_length_eq_zero h0
    have key : (Builtin.append_ #[22, 22] ty #[v, .slice A 0 c]).run Try.prog w = .ok v w := by
      rcases h with ⟨rfl, rfl⟩ | ⟨g, cap, cur, rfl, hb, h1, h2, h3, h4⟩
      · cases A <;> simp [Builtin.append_, run_underlying Try.underlying22, sizeOf, typeInfo, hi, Builtin.lenOf, Builtin.firstCells, loadCells, loadCellsFrom]
      · cases A with
        | none =>
          obtain rfl := hA rfl
          simp [Builtin.append_, run_underlying Try.underlying22, sizeOf, typeInfo, hi, Builtin.lenOf, Builtin.firstCells, h1, storeCells]
        | some ad =>
          have := run_append_room (P := Try.prog) (w := w) 22 ty 5 i0 Try.underlying22 hi g l.length cap cur hb ad 0 c [] (by simp) (by simp) (by simp) (by omega) (by rw [hz1]; simp; omega)
          rw [this, hz1]
          have e : (List.take (l.length * 1) cur.toList ++ [] ++ List.drop (l.length * 1 + ([] : List Value).length) cur.toList).toArray = cur := by simp
          rw [e, setRow_self _ _ _ _ _ hb]
          rfl
    refine ⟨v, w, by simpa using key, by simpa using h, World.grownBy.refl w _, Or.inl rfl⟩
  · obtain ⟨ad, rfl, hc⟩ := hr.src h0
    rcases h with ⟨rfl, rfl⟩ | ⟨g, cap, cur, rfl, hb, h1, h2, h3, h4⟩
    · have hrun := run_append_nil (P := Try.prog) (w := w) 22 ty 5 i0 _ Try.underlying22 hi hz0 ad r.length c (r.map b8) (by simp [hz1]) hc h0 (by omega) (by rw [hz2]; omega)
      have hgr := grown 0 (Value.ownBlock (.slice none 0 0))
      simp only [List.length_nil, Nat.zero_add, List.nil_append, List.map_nil, Array.empty_append] at hgr
      exact ⟨_, _, hrun, by simpa using hgr.1, by simpa using hgr.2, Or.inr rfl⟩
    · by_cases hroom : l.length + r.length ≤ cap
      · have hrun := run_append_room (P := Try.prog) (w := w) 22 ty 5 i0 Try.underlying22 hi g l.length cap cur hb ad r.length c (r.map b8) (by simp [hz1]) hc (one_b8 r) hroom (by rw [hz1]; simp; omega)
        refine ⟨_, _, hrun, Or.inr ⟨g, cap, _, by simp, setRow_heap w g cur _ 5 _ hb, by simpa using hroom, h2, ?_, ?_⟩, ⟨rfl, rfl, rfl, by simp, fun k _ hk => setRow_other w g k _ (fun e => hk (by simp [Value.ownBlock, e]))⟩, Or.inl rfl⟩
        · simp only [hz1, List.size_toArray, List.length_append, List.length_take, List.length_drop, Array.length_toList, List.length_map]
          omega
        · rw [hz1, Nat.mul_one, h4, ← hlen', List.map_append]
          exact List.take_left
      · have holds : ∀ j u, (l.map b8)[j]? = some u → w.cell? ((⟨g, 0, none⟩ : Addr).add j) = some u := by
          intro j u hu
          rw [zero_add', cell_of_row w g j _ 5 (0, 0) hb]
          obtain ⟨hj, rfl⟩ := List.getElem?_eq_some_iff.1 hu
          have : (cur.toList.take l.length)[j]? = (l.map b8)[j]? := by rw [h4]
          simp at hj
          rw [List.getElem?_take_of_lt hj] at this
          simpa [hj] using this
        have hrun := run_append_grow (P := Try.prog) (w := w) 22 ty 5 i0 _ Try.underlying22 hi hz0 ⟨g, 0, none⟩ l.length cap (l.map b8) (by simp [hz1]) holds ad r.length c (r.map b8) (by simp [hz1]) hc (by omega) (by omega) (by
          rw [hz2]; exact growslice_fits (by omega) (by omega))
        have hgr := grown cap (Value.ownBlock (.slice (some ⟨g, 0, none⟩) l.length cap))
        exact ⟨_, _, hrun, by simpa using hgr.1, by simpa using hgr.2, Or.inr rfl⟩
end Go.Proofs.Ytkalgonkaoiapaa.Shf
