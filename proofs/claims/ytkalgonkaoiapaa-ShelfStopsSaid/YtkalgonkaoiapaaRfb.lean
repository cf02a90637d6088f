/- The document's own shelf: names without one, and with one. -/
import Derived.Test.YtkalgonkaoiapaaRfa
namespace Go.Proofs.Ytkalgonkaoiapaa.Shf
open Go.ChangeShapes Go.WideShapes Go.ChangeAt Go.RowKit

def nmP (p : S × Nat) : List Value := [.string (str p.1), .int .i64 (p.2 : Int)]
theorem nmL_get (l : List (S × Nat)) (j : Nat) (hj : j < l.length * 2) : (l.flatMap nmP)[j]? = some (nmC l j) := by
  induction l generalizing j with
  | nil => simp at hj
  | cons p l ih =>
    rcases (by omega : j = 0 ∨ j = 1 ∨ 2 ≤ j) with e | e | e
    · subst e; simp [nmP, nmC]
    · subst e; simp [nmP, nmC]
    · rw [List.flatMap_cons, List.getElem?_append_right (by simpa [nmP] using e), show (nmP p).length = 2 from rfl, ih (j - 2) (by simp at hj; omega)]
      unfold nmC
      have e1 : (j - 2) % 2 = j % 2 := by omega
      have e2 : j / 2 = (j - 2) / 2 + 1 := by omega
      rw [e1, e2, List.getD_cons_succ]
theorem nmL_len (l : List (S × Nat)) : (l.flatMap nmP).length = l.length * 2 := by
  induction l with
  | nil => rfl
  | cons p l ih => simp [ih, nmP]; omega
theorem info96 : (Try.prog.info? 96).map (fun i => (i.zero, i.size, i.bytes)) = some (some (.agg #[.string ⟨#[]⟩, .int .i64 0]), 2, 24) := by kernel_rfl
theorem own_nm {w : World} {B : Nat} {v : Value} {l : List (S × Nat)} {T : Nat → Tag} (h : w.ownsRow B 96 2 v l.length (l.flatMap nmP)) (hT : ∀ b, B ≤ b → T b = .none) : RNm w T v l := by
  have hh := h
  rcases h.2 with ⟨rfl, h0⟩ | ⟨g, cap, cur, rfl, hB, hg, h1, h2, h3, h4⟩
  · rw [List.eq_nil_of_length_eq_zero h0]; exact RNm.nil w T
  · refine ⟨_, cap, rfl, h1, (fun h => by cases h), fun _ => ⟨g, rfl, (Array.getElem?_eq_some_iff.1 hg).1, hT g hB, fun j hj => ?_⟩⟩
    rw [cell_of_row w g j _ 96 (0, 0) hg, ← nmL_get l j hj, ← h4, List.getElem?_take_of_lt hj]
    simp
theorem wo_take (l : List (S × Nat)) (s : S) (k : Nat) (hk : k < l.length) : wo (l.take (k + 1)) s = wo (l.take k) s ++ (if l[k].1 = s then [] else [l[k]]) := by
  rw [List.take_add_one, List.getElem?_eq_getElem hk]
  unfold wo
  rw [List.filter_append]
  congr 1
  by_cases h : l[k].1 = s <;> simp [h]
theorem cells_two (w : World) (x y : Value) : ∀ j u, [x, y][j]? = some u → (w.alloc (.cells #[x, y] 96)).cell? ((⟨w.heap.size, 0, none⟩ : Addr).add j) = some u := by
  intro j u hj
  rw [zero_add', cell_of_row _ _ j _ 96 (0, 0) (alloc1 w _)]
  simpa using hj
set_option maxRecDepth 4000 in
theorem without_any (w : World) (T : Nat → Tag) (v : Value) (l : List (S × Nat)) (s : S) (h : RNm w T v l) (hl : l.length ≤ 1000000) :
    Calls Try.prog 59 #[v, .string (str s)] w fun e w' => ∃ v', e = .returned v' ∧ w'.ownsRow w.heap.size 96 2 v' (wo l s).length ((wo l s).flatMap nmP) ∧ Below w.heap.size w w' := by
  obtain ⟨A, c, rfl, hc, hA, hC⟩ := h
  obtain ⟨n, hn⟩ : ∃ n, n = l.length := ⟨_, rfl⟩
  obtain ⟨nm, hnm⟩ : ∃ nm, nm = str s := ⟨_, rfl⟩
  obtain ⟨i0, hi, hz0, hz1, hz2⟩ := info_parts info96
  rw [← hn, ← hnm]
  rw [← hn] at hc hl
  have HN := Lib.hid hn
  have HS := Lib.hid hnm
  have HC := Lib.hid hC
  have HI := Lib.hid (And.intro hi (And.intro hz0 (And.intro hz1 hz2)))
  clear hn hnm hC hi hz0 hz1 hz2
  go_enter Try.func59, Try.ntmps59
  go_wp2
  go_loopw [5, 6] (fun x i wr => ∃ k : Nat, k ≤ n ∧ i = .int .i64 k ∧ wr.ownsRow w.heap.size 96 2 x (wo (l.take k) s).length ((wo (l.take k) s).flatMap nmP) ∧ Below w.heap.size w wr) (fun _ i _ => n - (intOf i).toNat)
  case atStart => exact ⟨0, by omega, rfl, ⟨rfl, Or.inl ⟨rfl, rfl⟩⟩, Below.refl _ _⟩
  case round =>
    obtain ⟨k, hk, rfl, O, B⟩ := hrel
    by_cases hlt : k < n
    · have hkl : k < l.length := by rw [← HN.out]; exact hlt
      have CK := HC.out.keep (Shf.Below.keep B T)
      obtain ⟨g, rfl, d0, d1⟩ := RNm.at CK k hkl
      have hki : (k : Int) < (n : Int) := by omega
      have hw : IntKind.i64.wrap ((k : Int) + 1) = (k : Int) + 1 := by rw [IntKind.wrap_i64] <;> omega
      have hwo := wo_take l s k hkl
      have hlen : (wo (l.take k) s).length ≤ k := by
        unfold wo
        have := List.length_filter_le (fun p : S × Nat => !decide (p.1 = s)) (l.take k)
        rw [List.length_take] at this
        omega
      by_cases he : l[k].1 = s
      · have hb : ((str l[k].1).toList == nm.toList) = true := by rw [HS.out, str_beq]; simp [he]
        rw [if_pos he, List.append_nil] at hwo
        rw [← hwo] at O
        have HO := Lib.hid O
        have HB := Lib.hid B
        clear hwo hlen O B CK d1 he
        generalize str l[k].1 = y at *
        go_wp2
        exact ⟨⟨k + 1, by omega, by simp, HO.out, HB.out⟩, by simp [intOf]; omega⟩
      · have hb : ((str l[k].1).toList == nm.toList) = false := by rw [HS.out, str_beq]; simp [he]
        rw [if_neg he] at hwo
        have HW := Lib.hid hwo
        have HO := Lib.hid O
        have HB := Lib.hid B
        have HL := Lib.hid hlen
        have HY : Hid (nmP l[k] = [.string (str l[k].1), .int .i64 (l[k].2 : Int)]) := rfl
        clear hwo hlen O B CK he
        generalize str l[k].1 = y at *
        generalize (l[k].2 : Int) = z at *
        go_wp2_with (first
          | (at_builtin; refine wpList_append_own_at _ rfl _ _ 32 rfl w.heap.size 96 i0 _ 2 24 Try.underlying32 HI.out.1 HI.out.2.1 HI.out.2.2.1 HI.out.2.2.2 rfl (by decide) u5 _ _ rfl (HO.out.alloc _) ⟨wr.heap.size, 0, none⟩ 1 1 [.string y, .int .i64 z] rfl rfl (cells_two _ _ _) (by intro u hu; simp at hu; rcases hu with rfl | rfl <;> rfl) (by have := HL.out; unfold maxLen; omega) (by have := HL.out; omega) (by have := HB.out.size; simp; omega) ?_; intro v2 w2 own2 grow2 nil2 at2; have HZ := Lib.hid (And.intro own2 grow2); clear own2 grow2 nil2 at2)
          | go_in)
        have hown : w2.ownsRow w.heap.size 96 2 v2 (wo (l.take (k + 1)) s).length ((wo (l.take (k + 1)) s).flatMap nmP) := by
          have h := HZ.out.1
          rw [HW.out, List.flatMap_append, List.length_append]
          simpa [HY.out] using h
        have hbel : Below w.heap.size w w2 := (HB.out.alloc HB.out.size _).grown HZ.out.2 (by have := HB.out.size; simp; omega) (fun j hj => (World.ownsRow.lt HO.out j hj).1)
        exact ⟨⟨k + 1, by omega, by simp, hown, hbel⟩, by simp [intOf]; omega⟩
    · obtain rfl : k = n := by omega
      have hki : ¬ (k : Int) < (k : Int) := by omega
      rw [List.take_of_length_le (by have := HN.out; omega)] at O
      have HO := Lib.hid O
      clear O
      go_wp2
      go_ret
      exact ⟨_, rfl, HO.out, B⟩
set_option maxRecDepth 4000 in
theorem with_any (w : World) (T : Nat → Tag) (v : Value) (l : List (S × Nat)) (s : S) (f : Nat) (h : RNm w T v l) (hl : l.length ≤ 1000000) (hT : ∀ b, T b ≠ .none → b < w.heap.size) :
    Calls Try.prog 57 #[v, .string (str s), .int .i64 (f : Int)] w fun e w' => ∃ v', e = .returned v' ∧ RNm w' T v' (wi l s f) ∧ Below w.heap.size w w' := by
  have c59 := without_any w T v l s h hl
  have hlen : (wo l s).length ≤ 1000000 := by
    unfold wo
    have := List.length_filter_le (fun p : S × Nat => !decide (p.1 = s)) l
    omega
  obtain ⟨i0, hi, hz0, hz1, hz2⟩ := info_parts info96
  have HI := Lib.hid (And.intro hi (And.intro hz0 (And.intro hz1 hz2)))
  have HL := Lib.hid hlen
  have HT := Lib.hid (fun b (hb : w.heap.size ≤ b) => show T b = .none by
    cases e : T b with
    | none => rfl
    | _ => exact absurd (hT b (by rw [e]; intro h; cases h)) (by omega))
  obtain ⟨nm, hnm⟩ : ∃ nm, nm = str s := ⟨_, rfl⟩
  have HS := Lib.hid hnm
  rw [← hnm] at c59 ⊢
  clear hi hz0 hz1 hz2 hlen hT hnm h
  go_enter Try.func57, Try.ntmps57
  go_wp2_with (first
    | (go_at_call 59; refine c59.mono ?_; rintro e w1 ⟨v1, rfl, O1, B1⟩; have HO := Lib.hid (And.intro O1 B1); clear O1 B1 c59)
    | (at_builtin; refine wpList_append_own_at _ rfl _ _ 32 rfl w.heap.size 96 i0 _ 2 24 Try.underlying32 HI.out.1 HI.out.2.1 HI.out.2.2.1 HI.out.2.2.2 rfl (by decide) v1 _ _ rfl (HO.out.1.alloc _) ⟨w1.heap.size, 0, none⟩ 1 1 [.string nm, .int .i64 (f : Int)] rfl rfl (cells_two _ _ _) (by intro u hu; simp at hu; rcases hu with rfl | rfl <;> rfl) (by have := HL.out; unfold maxLen; omega) (by have := HL.out; omega) (by have := HO.out.2.size; simp; omega) ?_; intro v2 w2 own2 grow2 nil2 at2; have HZ := Lib.hid (And.intro own2 grow2); clear own2 grow2 nil2 at2)
    | go_in)
  go_ret
  have hown : w2.ownsRow w.heap.size 96 2 v2 (wi l s f).length ((wi l s f).flatMap nmP) := by
    have h := HZ.out.1
    unfold wi
    rw [List.flatMap_append, List.length_append]
    simpa [nmP, ← HS.out] using h
  have hbel : Below w.heap.size w w2 := (HO.out.2.alloc HO.out.2.size _).grown HZ.out.2 (by have := HO.out.2.size; simp; omega) (fun j hj => (World.ownsRow.lt HO.out.1 j hj).1)
  exact ⟨v2, rfl, own_nm hown HT.out, hbel⟩
end Go.Proofs.Ytkalgonkaoiapaa.Shf
