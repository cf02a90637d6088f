/- The document's own shelf: names in memory, and what is found among them. -/
import Derived.Test.YtkalgonkaoiapaaAww
namespace Go.Proofs.Ytkalgonkaoiapaa.Shf
open Go.ChangeShapes Go.WideShapes Go.ChangeAt Go.RowKit

/-- What isn't the shelf's is as it was, and isn't the shelf's still. -/
structure Keep (w : World) (T : Nat → Tag) (w' : World) (T' : Nat → Tag) : Prop where
  size : w.heap.size ≤ w'.heap.size
  block : ∀ b, b < w.heap.size → T b = .none → w'.heap[b]? = w.heap[b]? ∧ T' b = .none
theorem Ext.keep {w w' : World} {T T' : Nat → Tag} (h : Ext w T w' T') : Keep w T w' T' := ⟨h.size, fun b hb hn => ⟨h.block b hb hn, (h.tags b hb).trans hn⟩⟩
theorem Below.keep {w w' : World} (h : Below w.heap.size w w') (T : Nat → Tag) : Keep w T w' T := ⟨h.size, fun b hb hn => ⟨h.block b hb, hn⟩⟩
theorem Keep.trans {a b c : World} {T U V : Nat → Tag} (h : Keep a T b U) (k : Keep b U c V) : Keep a T c V :=
  ⟨Nat.le_trans h.size k.size, fun i hi hn => by
    obtain ⟨h1, h2⟩ := h.block i hi hn
    obtain ⟨k1, k2⟩ := k.block i (Nat.lt_of_lt_of_le hi h.size) h2
    exact ⟨k1.trans h1, k2⟩⟩
/-- A slice whose elements of so many cells lie where nothing of a shelf's does. -/
def Cells (w : World) (T : Nat → Tag) (A : Option Addr) (n : Nat) (f : Nat → Value) : Prop := 0 < n → ∃ g, A = some ⟨g, 0, none⟩ ∧ g < w.heap.size ∧ T g = .none ∧ ∀ j, j < n → w.cell? ⟨g, j, none⟩ = some (f j)
theorem Cells.keep {w w' : World} {T T' : Nat → Tag} {A : Option Addr} {n : Nat} {f : Nat → Value} (h : Cells w T A n f) (K : Keep w T w' T') : Cells w' T' A n f := fun h0 => by
  obtain ⟨g, e, h1, h2, h3⟩ := h h0
  obtain ⟨k1, k2⟩ := K.block g h1 h2
  exact ⟨g, e, Nat.lt_of_lt_of_le h1 K.size, k2, fun j hj => (World.cell?_of_block (a := ⟨g, j, none⟩) k1).trans (h3 j hj)⟩
/-- The cells of names. -/
def nmC (l : List (S × Nat)) (j : Nat) : Value := if j % 2 = 0 then .string (str (l.getD (j / 2) ([], 0)).1) else .int .i64 ((l.getD (j / 2) ([], 0)).2 : Int)
/-- A slice of names. -/
def RNm (w : World) (T : Nat → Tag) (v : Value) (l : List (S × Nat)) : Prop := ∃ A c, v = .slice A l.length c ∧ l.length ≤ c ∧ (A = none → c = 0) ∧ Cells w T A (l.length * 2) (nmC l)
theorem RNm.keep {w w' : World} {T T' : Nat → Tag} {v : Value} {l : List (S × Nat)} (h : RNm w T v l) (K : Keep w T w' T') : RNm w' T' v l := by
  obtain ⟨A, c, e, h1, h2, h3⟩ := h
  exact ⟨A, c, e, h1, h2, h3.keep K⟩
theorem RNm.nil (w : World) (T : Nat → Tag) : RNm w T (.slice none 0 0) [] := ⟨none, 0, rfl, Nat.le_refl _, fun _ => rfl, fun h => by simp at h⟩
theorem RNm.at {w : World} {T : Nat → Tag} {A : Option Addr} {l : List (S × Nat)} (h : Cells w T A (l.length * 2) (nmC l)) (k : Nat) (hk : k < l.length) :
    ∃ g, A = some ⟨g, 0, none⟩ ∧ w.cell? ⟨g, k * 2, none⟩ = some (.string (str l[k].1)) ∧ w.cell? ⟨g, k * 2 + 1, none⟩ = some (.int .i64 (l[k].2 : Int)) := by
  obtain ⟨ad, e, _, _, h3⟩ := h (by omega)
  have g : l.getD k ([], 0) = l[k] := by rw [List.getD_eq_getElem?_getD, List.getElem?_eq_getElem hk]; rfl
  refine ⟨ad, e, ?_, ?_⟩
  · rw [h3 (k * 2) (by omega)]
    unfold nmC
    rw [if_pos (by omega), show k * 2 / 2 = k by omega, g]
  · rw [h3 (k * 2 + 1) (by omega)]
    unfold nmC
    rw [if_neg (by omega), show (k * 2 + 1) / 2 = k by omega, g]
theorem ret_int {k : IntKind} {a b : Int} (h : a = b) : Ending.returned (.int k a) = .returned (.int k b) := by rw [h]
def findI (l : List (S × Nat)) (s : S) : Int := match get l s with | none => -1 | some f => (f : Int)
theorem get_drop {l : List (S × Nat)} {s : S} {k : Nat} (h : ∀ j (hj : j < l.length), j < k → l[j].1 ≠ s) : get (l.drop k) s = get l s := by
  induction k generalizing l with
  | zero => rfl
  | succ k ih =>
    cases l with
    | nil => rfl
    | cons p l =>
      obtain ⟨x, b⟩ := p
      have h0 : x ≠ s := h 0 (by simp) (by omega)
      rw [List.drop_succ_cons, ih (fun j hj hk => h (j + 1) (by simpa using hj) (by omega))]
      simp [get, h0]
theorem str_beq (a b : S) : ((str a).toList == (str b).toList) = decide (a = b) := by
  rw [str_toList, str_toList]
  by_cases h : a = b
  · simp [h]
  · simp [h]
set_option maxRecDepth 4000 in
theorem find_any (w : World) (T : Nat → Tag) (v : Value) (l : List (S × Nat)) (s : S) (h : RNm w T v l) (hl : l.length ≤ 1000000) :
    Calls Try.prog 49 #[v, .string (str s)] w fun e w' => e = .returned (.int .i64 (findI l s)) ∧ w = w' := by
  obtain ⟨A, c, rfl, hc, hA, hC⟩ := h
  obtain ⟨n, hn⟩ : ∃ n, n = l.length := ⟨_, rfl⟩
  obtain ⟨nm, hnm⟩ : ∃ nm, nm = str s := ⟨_, rfl⟩
  rw [← hn, ← hnm]
  rw [← hn] at hc hl
  have HN := Lib.hid hn
  have HS := Lib.hid hnm
  have HC := Lib.hid hC
  clear hn hnm hC
  go_enter Try.func49, Try.ntmps49
  go_wp2
  go_loopw [5] (fun i wr => wr = w ∧ ∃ k : Nat, k ≤ n ∧ i = .int .i64 k ∧ Hid (∀ j (hj : j < l.length), j < k → l[j].1 ≠ s)) (fun i _ => n - (intOf i).toNat)
  case atStart => exact ⟨rfl, 0, by omega, rfl, fun j _ h => by omega⟩
  case round =>
    obtain ⟨rfl, k, hk, rfl, HO⟩ := hrel
    by_cases hlt : k < n
    · have hkl : k < l.length := by rw [← HN.out]; exact hlt
      obtain ⟨ad, rfl, d0, d1⟩ := RNm.at HC.out k hkl
      have hki : (k : Int) < (n : Int) := by omega
      have hw : IntKind.i64.wrap ((k : Int) + 1) = (k : Int) + 1 := by rw [IntKind.wrap_i64] <;> omega
      by_cases he : l[k].1 = s
      · have hb : ((str l[k].1).toList == nm.toList) = true := by rw [HS.out, str_beq]; simp [he]
        have hf : findI l s = ((l[k].2 : Nat) : Int) := by
          unfold findI
          have : get l s = some l[k].2 := by
            rw [← get_drop HO.out, List.drop_eq_getElem_cons hkl]
            simp [get, he]
          rw [this]
        have HF := Lib.hid hf
        generalize str l[k].1 = x at *
        generalize l[k].2 = y at *
        clear hf he
        go_wp2
        go_ret
        exact ⟨ret_int HF.out.symm, rfl⟩
      · have hb : ((str l[k].1).toList == nm.toList) = false := by rw [HS.out, str_beq]; simp [he]
        have HO' : Hid (∀ j (hj : j < l.length), j < k + 1 → l[j].1 ≠ s) := fun j hj hk => by
          rcases Nat.lt_or_ge j k with h1 | h1
          · exact HO.out j hj h1
          · obtain rfl : j = k := by omega
            exact he
        clear he
        generalize str l[k].1 = x at *
        go_wp2
        exact ⟨⟨trivial, k + 1, by omega, by simp, HO'⟩, by simp [intOf]; omega⟩
    · obtain rfl : k = n := by omega
      have hki : ¬ (k : Int) < (k : Int) := by omega
      have hf : findI l s = -1 := by
        unfold findI
        have : get l s = none := get_none.2 fun b hb => by
          obtain ⟨j, hj, e⟩ := List.mem_iff_getElem.1 hb
          exact HO.out j hj (by rw [HN.out]; exact hj) (by rw [e])
        rw [this]
      have HF := Lib.hid hf
      clear hf
      go_wp2
      go_ret
      exact ⟨ret_int HF.out.symm, rfl⟩
end Go.Proofs.Ytkalgonkaoiapaa.Shf
