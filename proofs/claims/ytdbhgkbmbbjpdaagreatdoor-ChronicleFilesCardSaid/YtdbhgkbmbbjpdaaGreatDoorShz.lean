/- What a shelf lists. -/
import Derived.Test.YtdbhgkbmbbjpdaaGreatDoorShu
import Derived.Test.YtdbhgkbmbbjpdaaGreatDoorIter
import Derived.Sort.KeysCollected
namespace Go.Proofs.YtdbhgkbmbbjpdaaGreatDoor.Shf
open Go.ChangeShapes Go.WideShapes Go.ChangeAt Go.RowKit Go.Maps
def M.list (m : M) : List S := if m.fallen then [] else (m.now.map (·.1)).mergeSort (fun x y => decide (x ≤ y))
def strV (s : S) : Value := .string (str s)
def Strs (w : World) (B : Nat) (v : Value) (l : List S) : Prop := w.ownsRow B 9 1 v l.length (l.map strV)
theorem NM.keys {w : World} {b n : Nat} {l : List (S × Nat)} (hn : (l.map (·.1)).Nodup) {D : DataW Unit} (h1 : w.ownsMap Tryz.prog 9 ptrR b n D) (h2 : ∀ s z, D.atKey (.string s) z = atV (get l s) z) : (l.map (·.1)).Perm (strKeys D) := by
  obtain ⟨es, hD, hpw, _⟩ := h1.entries law
  obtain ⟨es', hD', hko⟩ := h1.keysOf
  obtain rfl : es = es' := by rw [hD] at hD'; simpa using hD'
  subst hD
  refine perm_strKeys hpw (fun p hp => ?_) hn (fun x => ?_)
  · obtain ⟨v, hv⟩ := hko p hp
    obtain ⟨s, _, e, _⟩ := Go.WideMaps.string_of_keyOf Tryz.underlying9 hv
    exact ⟨_, e⟩
  · constructor
    · intro hx
      obtain ⟨⟨y, c⟩, hp, rfl⟩ := List.mem_map.1 hx
      have hg := get_mem hn hp
      exact has_true_of_atKey (y := .lit (.int .i64 c)) (fun z => by rw [h2, hg]; rfl)
    · intro hx
      cases hg : get l x with
      | some c => exact List.mem_map.2 ⟨(x, c), mem_get hg, rfl⟩
      | none =>
        have := has_false_of_atKey (D := .map es) (k := .string x) (fun z => by rw [h2, hg]; rfl)
        rw [this] at hx; cases hx
set_option maxRecDepth 4000 in
theorem list_rep (w : World) (T : Nat → Tag) (q : Nat) (m : M) (R : Rep w T q m) (hd : m.done < 1000000000) :
    Calls Tryz.prog 31 #[.pointer (some ⟨q, 0, none⟩)] w fun e w' => ∃ v, e = .returned v ∧ Strs w' w.heap.size v m.list ∧ Below w.heap.size w w' := by
  obtain ⟨⟨nv, sv, mv, nn, ns, RV⟩, F⟩ := R
  have c22 := on_any w q m nv sv mv RV.sh
  have y1 : w.cell? ⟨q, 1, none⟩ = some nv := RV.sh.cell 1
  have hbn := RV.bnn
  have hG := F.goodNow
  have hN := RV.nm
  cases hf : m.fallen with
  | true =>
    rw [hf] at c22
    rw [show m.list = [] by simp [M.list, hf]]
    clear RV F hf hG hN
    go_enter Tryz.func31, Tryz.ntmps31
    go_wp2_with (first | (go_at_call 17; refine c22.mono ?_; rintro e w' ⟨rfl, rfl⟩))
    go_ret
    exact ⟨_, rfl, ⟨rfl, Or.inl ⟨rfl, rfl⟩⟩, Below.refl _ _⟩
  | false =>
    rw [hf] at c22
    have hl : m.list = (m.now.map (·.1)).mergeSort (fun x y => decide (x ≤ y)) := by simp [M.list, hf]
    rw [hl]
    generalize m.now = l at *
    rcases hN with ⟨rfl, rfl⟩ | ⟨b, rfl, D, h1, h2⟩
    · have c53 := callsIn_wide.1 (Tryz.maps_Keys_60 none w)
      have c52 := callsIn_wide.1 (Tryz.slices_Sorted_keys_nil_59_60 w)
      clear RV F hf hG hl
      go_enter Tryz.func31, Tryz.ntmps31
      go_wp2_with (first
        | (go_at_call 17; refine c22.mono ?_; rintro e w' ⟨rfl, rfl⟩)
        | (go_at_call 60; refine c53.mono ?_; rintro e w' ⟨rfl, rfl⟩)
        | (go_at_call 59; refine c52.mono ?_; rintro e w' ⟨v, ss, rfl, rfl, hrow, hnil, hb⟩))
      go_ret
      obtain rfl : v = .slice none 0 0 := by simpa using hnil
      exact ⟨_, rfl, ⟨by simp, Or.inl ⟨rfl, by simp⟩⟩, ((Below.refl _ w).alloc (Nat.le_refl _) _).trans (hb.mono (by simp))⟩
    · have hsz := h1.size_le
      have c53 := callsIn_wide.1 (Tryz.maps_Keys_60 (some b) w)
      have c52 := callsIn_wide.1 (Tryz.slices_Sorted_keys_59_60 b nn D ptrR w h1 (by unfold maxLen; omega) (by omega))
      have hp := NM.keys hG.keys h1 h2
      have HP := Lib.hid hp
      clear RV F hf hG hl h1 h2 hp
      go_enter Tryz.func31, Tryz.ntmps31
      go_wp2_with (first
        | (go_at_call 17; refine c22.mono ?_; rintro e w' ⟨rfl, rfl⟩)
        | (go_at_call 60; refine c53.mono ?_; rintro e w' ⟨rfl, rfl⟩)
        | (go_at_call 59; refine c52.mono ?_; rintro e w' ⟨v, ss, rfl, hS, hrow, hnil, hb⟩))
      go_ret
      have hperm : (l.map (·.1)).Perm ss := HP.out.trans hS.symm
      have hms : (l.map (·.1)).mergeSort (fun x y => decide (x ≤ y)) = ss.mergeSort (fun x y => decide (x ≤ y)) := mergeSort_of_perm hperm
      refine ⟨v, rfl, ?_, ((Below.refl _ w).alloc (Nat.le_refl _) _).trans (hb.mono (by simp))⟩
      rw [hms]
      unfold Strs
      rw [List.length_mergeSort]
      exact ownsRow_base_a hrow (by simp)
end Go.Proofs.YtdbhgkbmbbjpdaaGreatDoor.Shf
