/- Which names may be. -/
import Derived.Test.YtkalgonkaoiapaaSha
import Derived.Laws.RangeAny
import Derived.Laws.RangeString
namespace Go.Proofs.Ytkalgonkaoiapaa.Shf
open Go.ChangeShapes Go.WideShapes Go.ChangeAt Go.RowKit

theorem ret_bool {a b : Bool} (h : a = b) : Ending.returned (.bool a) = .returned (.bool b) := by rw [h]
def okN (n : Nat) : Bool := (decide (97 ≤ n) && decide (n ≤ 122)) || (decide (48 ≤ n) && decide (n ≤ 57)) || decide (n = 46)
/-- May a file have this name? -/
def nameOk (l : List UInt8) : Bool := l.all (fun b => okN b.toNat) && decide (0 < l.length) && decide (l.length ≤ 32)
theorem fits_any (w : World) (n : Nat) : Calls Try.prog 51 #[.int .i32 (n : Int)] w fun e w' => e = .returned (.bool (okN n)) ∧ w = w' := by
  by_cases h1 : 97 ≤ n
  · by_cases h2 : n ≤ 122
    · rw [show okN n = true by simp [okN, h1, h2]]
      have h1' : (97 : Int) ≤ (n : Int) := by omega
      have h2' : (n : Int) ≤ 122 := by omega
      go_enter Try.func51, Try.ntmps51
      go_wp2
      go_ret
      exact ⟨rfl, rfl⟩
    · rw [show okN n = false by simp [okN]; omega]
      have h1' : (97 : Int) ≤ (n : Int) := by omega
      have h2' : ¬ (n : Int) ≤ 122 := by omega
      have h3' : (48 : Int) ≤ (n : Int) := by omega
      have h4' : ¬ (n : Int) ≤ 57 := by omega
      have h5' : ((n : Int) == 46) = false := by simp; omega
      have h6' : ¬ (n : Int) = 46 := by omega
      go_enter Try.func51, Try.ntmps51
      go_wp2
      go_ret
      exact ⟨rfl, rfl⟩
  · have h1' : ¬ (97 : Int) ≤ (n : Int) := by omega
    by_cases h3 : 48 ≤ n
    · have h3' : (48 : Int) ≤ (n : Int) := by omega
      by_cases h4 : n ≤ 57
      · rw [show okN n = true by simp [okN, h3, h4]]
        have h4' : (n : Int) ≤ 57 := by omega
        go_enter Try.func51, Try.ntmps51
        go_wp2
        go_ret
        exact ⟨rfl, rfl⟩
      · rw [show okN n = false by simp [okN]; omega]
        have h4' : ¬ (n : Int) ≤ 57 := by omega
        have h5' : ((n : Int) == 46) = false := by simp; omega
        have h6' : ¬ (n : Int) = 46 := by omega
        go_enter Try.func51, Try.ntmps51
        go_wp2
        go_ret
        exact ⟨rfl, rfl⟩
    · have h3' : ¬ (48 : Int) ≤ (n : Int) := by omega
      by_cases h6 : n = 46
      · subst h6
        rw [show okN 46 = true by decide]
        go_enter Try.func51, Try.ntmps51
        go_wp2
        go_ret
        exact ⟨rfl, rfl⟩
      · rw [show okN n = false by simp [okN]; omega]
        have h5' : ((n : Int) == 46) = false := by simp; omega
        have h6' : ¬ (n : Int) = 46 := by omega
        go_enter Try.func51, Try.ntmps51
        go_wp2
        go_ret
        exact ⟨rfl, rfl⟩
theorem cases6 (n : Nat) : (97 ≤ n ∧ n ≤ 122) ∨ 122 < n ∨ (48 ≤ n ∧ n ≤ 57) ∨ (57 < n ∧ n < 97) ∨ n = 46 ∨ (n < 48 ∧ n ≠ 46) := by omega
theorem get_str (l : List UInt8) (i : Nat) (h : i < (str l).size) : (str l)[i]'h = l[i]'h := rfl
set_option maxRecDepth 4000 in
theorem name_any (w : World) (l : List UInt8) (hl : l.length ≤ 1000000) : Calls Try.prog 27 #[.string (str l)] w fun e w' => e = .returned (.bool (nameOk l)) ∧ Below w.heap.size w w' := by
  have hB : ∀ p, Below w.heap.size w (w.iter (str l) p) := fun p => (Below.refl _ w).alloc (Nat.le_refl _) _
  have hsz : (str l).size = l.length := rfl
  obtain ⟨s, hs⟩ : ∃ s, s = str l := ⟨_, rfl⟩
  rw [← hs] at hB hsz ⊢
  have hget : ∀ i (h : i < s.size) (h' : i < l.length), (s[i]'h).toNat = (l[i]'h').toNat := by intro i h h'; subst hs; rfl
  have HG := Lib.hid hget
  have HB := Lib.hid hB
  clear hget hB hs
  go_enter Try.func27, Try.ntmps27
  go_wp2
  go_loopw [4] (fun _ wr => ∃ pos : Nat, wr = w.iter s pos ∧ pos ≤ s.size ∧ Hid (∀ j (h : j < l.length), j < pos → okN (l[j]'h).toNat = true)) (fun _ wr => s.size - wr.iterPos w.heap.size)
  case atStart => exact ⟨0, rfl, by omega, fun j _ h => by omega⟩
  case round =>
    obtain ⟨pos, rfl, hp, HO⟩ := hrel
    by_cases hlt : pos < s.size
    · have hget := HG.out pos hlt (by omega)
      by_cases ha : (s[pos]'hlt).toNat < 128
      · have hnx := fun ty => run_next_ascii (P := Try.prog) w s pos ty hlt ha
        have c51 := fun W => fits_any W (s[pos]'hlt).toNat
        cases ho : okN (s[pos]'hlt).toNat with
        | true =>
          rw [ho] at c51
          have HO' : Hid (∀ j (h : j < l.length), j < pos + 1 → okN (l[j]'h).toNat = true) := fun j h hj => by
            rcases Nat.lt_or_ge j pos with h1 | h1
            · exact HO.out j h h1
            · obtain rfl : j = pos := by omega
              rw [← hget]; exact ho
          clear ho hget
          go_wp2_with (first | (go_at_call 51; refine (c51 _).mono ?_; rintro e w' ⟨rfl, rfl⟩))
          go_roundw
          case rel => exact ⟨pos + 1, rfl, by omega, HO'⟩
          case measure => rw [World.iterPos_iter, World.iterPos_iter]; omega
        | false =>
          rw [ho] at c51
          have hf : nameOk l = false := by
            rw [hget] at ho
            simp only [nameOk, Bool.and_eq_false_iff]
            left; left
            rw [List.all_eq_false]
            exact ⟨l[pos]'(by omega), List.getElem_mem _, by rw [ho]; decide⟩
          have HF := Lib.hid hf
          clear ho hget hf
          go_wp2_with (first | (go_at_call 51; refine (c51 _).mono ?_; rintro e w' ⟨rfl, rfl⟩))
          go_ret
          exact ⟨ret_bool HF.out.symm, HB.out _⟩
      · obtain ⟨hh, _⟩ := decode_high s pos hlt (by omega)
        have hnx := fun ty => run_next_any (P := Try.prog) w s pos ty hlt
        have c51 := fun W => fits_any W (Utf8.decode s pos).1
        have ho : okN (Utf8.decode s pos).1 = false := by simp [okN]; omega
        rw [ho] at c51
        have hf : nameOk l = false := by
          have h1 : okN (l[pos]'(by omega)).toNat = false := by rw [← hget]; simp [okN]; omega
          simp only [nameOk, Bool.and_eq_false_iff]
          left; left
          rw [List.all_eq_false]
          exact ⟨l[pos]'(by omega), List.getElem_mem _, by rw [h1]; decide⟩
        have HF := Lib.hid hf
        clear hf
        generalize Utf8.decode s pos = dd at *
        obtain ⟨dr, dw⟩ := dd
        clear ho hget hh
        simp only at hnx c51
        go_wp2_with (first | (go_at_call 51; refine (c51 _).mono ?_; rintro e w' ⟨rfl, rfl⟩))
        go_ret
        exact ⟨ret_bool HF.out.symm, HB.out _⟩
    · have hnx := fun ty => run_next_end (P := Try.prog) w s pos ty hlt
      have hall : l.all (fun b => okN b.toNat) = true := by
        rw [List.all_eq_true]
        intro b hb
        obtain ⟨j, hj, rfl⟩ := List.mem_iff_getElem.1 hb
        exact HO.out j hj (by omega)
      have hn : nameOk l = (decide (0 < l.length) && decide (l.length ≤ 32)) := by simp [nameOk, hall]
      rw [← hsz] at hn
      have HF := Lib.hid hn
      have hss : s.size ≤ 1000000 := by omega
      clear hall hn hsz hp hlt HO
      by_cases h1 : 0 < s.size
      · by_cases h2 : s.size ≤ 32
        · have h1' : (0 : Int) < (s.size : Int) := by omega
          have h2' : (s.size : Int) ≤ 32 := by omega
          have HE := Lib.hid (show (decide (0 < s.size) && decide (s.size ≤ 32)) = true by simp [h1, h2])
          go_wp2
          go_ret
          exact ⟨ret_bool (HF.out.trans HE.out).symm, HB.out _⟩
        · have h1' : (0 : Int) < (s.size : Int) := by omega
          have h2' : ¬ (s.size : Int) ≤ 32 := by omega
          have HE := Lib.hid (show (decide (0 < s.size) && decide (s.size ≤ 32)) = false by simp; omega)
          go_wp2
          go_ret
          exact ⟨ret_bool (HF.out.trans HE.out).symm, HB.out _⟩
      · have h1' : ¬ (0 : Int) < (s.size : Int) := by omega
        have HE := Lib.hid (show (decide (0 < s.size) && decide (s.size ≤ 32)) = false by simp; omega)
        go_wp2
        go_ret
        exact ⟨ret_bool (HF.out.trans HE.out).symm, HB.out _⟩
theorem right_step (s : ByteArray) (l : List UInt8) (pos : Nat) (hlt : pos < s.size) (hl : pos < l.length) (hg : (s[pos]'hlt).toNat = (l[pos]'hl).toNat) (ho : okN (s[pos]'hlt).toNat = true) (h : ∀ j (h : j < l.length), j < pos → okN (l[j]'h).toNat = true) : Hid (∀ j (h : j < l.length), j < pos + 1 → okN (l[j]'h).toNat = true) := fun j hj hp => by
  rcases Nat.lt_or_ge j pos with h1 | h1
  · exact h j hj h1
  · obtain rfl : j = pos := by omega
    rw [← hg]; exact ho
theorem right_bad (s : ByteArray) (l : List UInt8) (pos : Nat) (hlt : pos < s.size) (hl : pos < l.length) (hg : (s[pos]'hlt).toNat = (l[pos]'hl).toNat) (ho : okN (s[pos]'hlt).toNat = false) : nameOk l = false := by
  simp only [nameOk, Bool.and_eq_false_iff]
  left; left
  rw [List.all_eq_false]
  exact ⟨l[pos], List.getElem_mem _, by rw [← hg, ho]; decide⟩
set_option maxRecDepth 4000 in
theorem right_any (w : World) (l : List UInt8) (hl : l.length ≤ 1000000) : Calls Try.prog 28 #[.string (str l)] w fun e w' => e = .returned (.bool (nameOk l)) ∧ w = w' := by
  have hsz : (str l).size = l.length := rfl
  obtain ⟨s, hs⟩ : ∃ s, s = str l := ⟨_, rfl⟩
  rw [← hs] at hsz ⊢
  have hget : ∀ i (h : i < s.size) (h' : i < l.length), (s[i]'h).toNat = (l[i]'h').toNat := by intro i h h'; subst hs; rfl
  have HG := Lib.hid hget
  clear hget hs
  go_enter Try.func28, Try.ntmps28
  go_wp2
  go_loopw [3] (fun i wr => wr = w ∧ ∃ pos : Nat, i = .int .i64 pos ∧ pos ≤ s.size ∧ Hid (∀ j (h : j < l.length), j < pos → okN (l[j]'h).toNat = true)) (fun i _ => s.size - (intOf i).toNat)
  case atStart => exact ⟨rfl, 0, rfl, by omega, fun j _ h => by omega⟩
  case round =>
    obtain ⟨rfl, pos, rfl, hp, HO⟩ := hrel
    by_cases hlt : pos < s.size
    · have HGP := Lib.hid (HG.out pos hlt (by omega))
      have hsi : (pos : Int) < (s.size : Int) := by omega
      have hww : IntKind.i64.wrap ((pos : Int) + 1) = (pos : Int) + 1 := by rw [IntKind.wrap_i64] <;> omega
      rcases cases6 (s[pos]'hlt).toNat with a | a | a | a | a | a
      · have HO' := Lib.hid (show okN (s[pos]'hlt).toNat = true by simp [okN]; omega)
        have e0 : (97 : Int) ≤ ((s[pos]'hlt).toNat : Int) := by omega
        have e1 : ((s[pos]'hlt).toNat : Int) ≤ 122 := by omega
        clear a
        go_wp2
        exact ⟨⟨trivial, pos + 1, by simp, by omega, right_step s l pos hlt _ HGP.out HO'.out HO.out⟩, by simp [intOf]; omega⟩
      · have HO' := Lib.hid (show okN (s[pos]'hlt).toNat = false by simp [okN]; omega)
        have e0 : (97 : Int) ≤ ((s[pos]'hlt).toNat : Int) := by omega
        have e1 : ¬ ((s[pos]'hlt).toNat : Int) ≤ 122 := by omega
        have e2 : (48 : Int) ≤ ((s[pos]'hlt).toNat : Int) := by omega
        have e3 : ¬ ((s[pos]'hlt).toNat : Int) ≤ 57 := by omega
        have e4 : (((s[pos]'hlt).toNat : Int) == 46) = false := by simp; omega
        have e5 : ¬ ((s[pos]'hlt).toNat : Int) = 46 := by omega
        clear a
        go_wp2
        go_ret
        exact ⟨ret_bool (right_bad s l pos hlt (by omega) HGP.out HO'.out).symm, rfl⟩
      · have HO' := Lib.hid (show okN (s[pos]'hlt).toNat = true by simp [okN]; omega)
        have e0 : ¬ (97 : Int) ≤ ((s[pos]'hlt).toNat : Int) := by omega
        have e1 : (48 : Int) ≤ ((s[pos]'hlt).toNat : Int) := by omega
        have e2 : ((s[pos]'hlt).toNat : Int) ≤ 57 := by omega
        clear a
        go_wp2
        exact ⟨⟨trivial, pos + 1, by simp, by omega, right_step s l pos hlt _ HGP.out HO'.out HO.out⟩, by simp [intOf]; omega⟩
      · have HO' := Lib.hid (show okN (s[pos]'hlt).toNat = false by simp [okN]; omega)
        have e0 : ¬ (97 : Int) ≤ ((s[pos]'hlt).toNat : Int) := by omega
        have e1 : (48 : Int) ≤ ((s[pos]'hlt).toNat : Int) := by omega
        have e2 : ¬ ((s[pos]'hlt).toNat : Int) ≤ 57 := by omega
        have e3 : (((s[pos]'hlt).toNat : Int) == 46) = false := by simp; omega
        have e4 : ¬ ((s[pos]'hlt).toNat : Int) = 46 := by omega
        clear a
        go_wp2
        go_ret
        exact ⟨ret_bool (right_bad s l pos hlt (by omega) HGP.out HO'.out).symm, rfl⟩
      · have HO' := Lib.hid (show okN (s[pos]'hlt).toNat = true by simp [okN]; omega)
        have e0 : ¬ (97 : Int) ≤ ((s[pos]'hlt).toNat : Int) := by omega
        have e1 : ¬ (48 : Int) ≤ ((s[pos]'hlt).toNat : Int) := by omega
        have e2 : ((s[pos]'hlt).toNat : Int) = 46 := by omega
        clear a
        go_wp2
        exact ⟨⟨trivial, pos + 1, by simp, by omega, right_step s l pos hlt _ HGP.out HO'.out HO.out⟩, by simp [intOf]; omega⟩
      · have HO' := Lib.hid (show okN (s[pos]'hlt).toNat = false by simp [okN]; omega)
        have e0 : ¬ (97 : Int) ≤ ((s[pos]'hlt).toNat : Int) := by omega
        have e1 : ¬ (48 : Int) ≤ ((s[pos]'hlt).toNat : Int) := by omega
        have e2 : (((s[pos]'hlt).toNat : Int) == 46) = false := by simp; omega
        have e3 : ¬ ((s[pos]'hlt).toNat : Int) = 46 := by omega
        clear a
        go_wp2
        go_ret
        exact ⟨ret_bool (right_bad s l pos hlt (by omega) HGP.out HO'.out).symm, rfl⟩
    · have hall : l.all (fun b => okN b.toNat) = true := by
        rw [List.all_eq_true]
        intro b hb
        obtain ⟨j, hj, rfl⟩ := List.mem_iff_getElem.1 hb
        exact HO.out j hj (by omega)
      have hn : nameOk l = (decide (0 < s.size) && decide (s.size ≤ 32)) := by simp [nameOk, hall, hsz]
      have HF := Lib.hid hn
      have hss : s.size ≤ 1000000 := by omega
      have hp' : ¬ (pos : Int) < (s.size : Int) := by omega
      clear hall hn hsz hlt HO
      by_cases h1 : 0 < s.size
      · by_cases h2 : s.size ≤ 32
        · have h1' : (0 : Int) < (s.size : Int) := by omega
          have h2' : (s.size : Int) ≤ 32 := by omega
          have HE := Lib.hid (show (decide (0 < s.size) && decide (s.size ≤ 32)) = true by simp [h1, h2])
          go_wp2
          go_ret
          exact ⟨ret_bool (HF.out.trans HE.out).symm, rfl⟩
        · have h1' : (0 : Int) < (s.size : Int) := by omega
          have h2' : ¬ (s.size : Int) ≤ 32 := by omega
          have HE := Lib.hid (show (decide (0 < s.size) && decide (s.size ≤ 32)) = false by simp; omega)
          go_wp2
          go_ret
          exact ⟨ret_bool (HF.out.trans HE.out).symm, rfl⟩
      · have h1' : ¬ (0 : Int) < (s.size : Int) := by omega
        have HE := Lib.hid (show (decide (0 < s.size) && decide (s.size ≤ 32)) = false by simp; omega)
        go_wp2
        go_ret
        exact ⟨ret_bool (HF.out.trans HE.out).symm, rfl⟩
end Go.Proofs.Ytkalgonkaoiapaa.Shf
