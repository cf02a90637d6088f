/- The document's example. -/
import Derived.Test.YtkalgonkaoiapaaAwm
import Derived.Test.YtkalgonkaoiapaaShv
namespace Go.Proofs.Ytkalgonkaoiapaa.Shf
open Go.ChangeShapes Go.WideShapes Go.ChangeAt Go.RowKit

theorem conv_any {w : World} {A : Option Addr} {l : List UInt8} (h : Rd w A l) (m cap : Nat) (hm : m = l.length) : (convert 22 9 (.slice A m cap)).run Try.prog w = .ok (.string (str l)) w := by
  subst hm
  by_cases h0 : 0 < l.length
  · obtain ⟨ad, rfl, hc⟩ := h h0
    exact run_convert_bytes_back w 22 9 5 ad cap l Try.underlying22 Try.underlying5 Try.underlying9 hc
  · obtain rfl : l = [] := List.eq_nil_of_length_eq_zero (by omega)
    rw [run_convert_bytes_string w 22 9 5 A _ cap Try.underlying22 Try.underlying5 Try.underlying9]
    rcases A with _ | ad
    · rfl
    · exact run_bytesToString w ad 0 cap [] (run_loadCells_list (P := Try.prog) w ad [] (by intro j v hv; simp at hv))
theorem append_lit (w : World) (T : Nat → Tag) (q : Nat) (m : M) (name p : S) (R : Rep w T q m) (hd : m.done < 1000000000) (hl : name.length ≤ 1000) (_hp : 0 < p.length) (hpl : p.length ≤ 1000000000) (hroom : -1000000000000 ≤ m.room) :
    Calls Try.prog 12 #[.pointer (some ⟨q, 0, none⟩), .string (str name), .slice (some ⟨w.heap.size, 0, none⟩) p.length p.length] (w.alloc (.cells (p.map b8).toArray 5 (p.length, p.length + 1))) fun e w' => e = .returned (.int .i64 (m.appendE name p : Int)) ∧ ∃ T', Rep w' T' q (m.append name p) ∧ Ext w T w' T' := by
  have hc := chg_alloc w (.cells (p.map b8).toArray 5 (p.length, p.length + 1)) (fun _ => False)
  have R2 := R.far hc (fun _ _ h => h)
  have hT : T w.heap.size = .none := by
    obtain ⟨⟨nv, sv, mv, nn, ns, RV⟩, _⟩ := R
    cases e : T w.heap.size with
    | none => rfl
    | _ => exact absurd (RV.old w.heap.size (by rw [e]; intro h; cases h)) (by omega)
  have hr : RdN (w.alloc (.cells (p.map b8).toArray 5 (p.length, p.length + 1))) T (some ⟨w.heap.size, 0, none⟩) p := by
    refine ⟨fun _ => ⟨_, rfl, fun j hj => ?_⟩, fun _ ad h => ?_⟩
    · rw [zero_add', cell_of_row _ _ j _ 5 _ (alloc1 w _)]; simp [hj]
    · cases h; exact ⟨hT, by simp⟩
  refine (append_rep _ T q m name p (some ⟨w.heap.size, 0, none⟩) p.length R2 hd hl hr (fun h => by cases h) hpl hroom).mono ?_
  rintro e w' ⟨rfl, T', R', X⟩
  exact ⟨rfl, T', R', (hc.ext (fun _ _ h => h.elim) (fun _ _ => rfl)).trans X⟩
theorem conv22 (w : World) (C : Array Value) (n c : Nat) : (convert 22 22 (.slice (some ⟨w.heap.size, 0, none⟩) n c)).run Try.prog (w.alloc (.cells C 5)) = .ok (.slice (some ⟨w.heap.size, 0, none⟩) n c) (w.alloc (.cells C 5 (C.size, C.size + 1))) := by
  have hsh : (w.alloc (.cells C 5)).shape? w.heap.size = some (5, C.size) := by
    unfold World.shape?
    rw [alloc1 w _]
  have hfr : (w.alloc (.cells C 5)).freeze ⟨w.heap.size, C.size, none⟩ 1 = w.alloc (.cells C 5 (C.size, C.size + 1)) := by
    have hm : ∀ (a : Array Obj) (x : Obj) (f : Obj → Obj), (a.push x).modify a.size f = a.push (f x) := by
      intro a x f
      apply Array.ext
      · simp
      · intro i h1 h2
        simp only [Array.getElem_modify, Array.getElem_push]
        by_cases h : a.size = i
        · subst h
          simp
        · have hi : i < a.size := by simp at h1; omega
          simp [h, hi]
    unfold World.freeze
    rw [if_neg (by decide)]
    show ({ w.alloc (.cells C 5) with heap := (w.heap.push (.cells C 5)).modify w.heap.size _ } : World) = _
    rw [hm]
    rfl
  simp [convert, run_underlying Try.underlying22, run_underlying Try.underlying5, markStringish, hsh]
  exact hfr
theorem Ext.low {w w' : World} {T T' : Nat → Tag} {B q : Nat} {m : M} (X : Ext w T w' T') (hB : B ≤ w.heap.size) (h : ∀ k, T k ≠ .none → B ≤ k) (_R : Rep w' T' q m) : ∀ k, T' k ≠ .none → B ≤ k := fun k hk => by
  rcases Nat.lt_or_ge k w.heap.size with h1 | h1
  · exact h k (by rw [← X.tags k h1]; exact hk)
  · omega
theorem Rep.lt {w : World} {T : Nat → Tag} {q : Nat} {m : M} (R : Rep w T q m) : q < w.heap.size := by obtain ⟨⟨nv, sv, mv, nn, ns, RV⟩, _⟩ := R; exact RV.sh.lt
theorem strs_nil {w : World} {B : Nat} {v : Value} (h : Strs w B v []) : ∃ A c, v = .slice A 0 c := by
  rcases h.2 with ⟨rfl, _⟩ | ⟨g, cap, cur, rfl, _⟩
  · exact ⟨none, 0, rfl⟩
  · exact ⟨_, cap, rfl⟩
set_option maxRecDepth 8000 in
set_option maxHeartbeats 2000000 in
theorem awake_any (w : World) : Calls Try.prog 9 #[] w fun e w' => e = .returned (.bool true) ∧ Below w.heap.size w w' := by
  have c10 := new_rep w 100 (by omega)
  have h22 := conv22
  go_enter Try.func9, Try.ntmps9
  go_wp2_with (first
    | (go_at_call 10; refine c10.mono ?_; rintro e w1 ⟨q, T1, rfl, R1, B1, L1⟩; have c11 : Calls Try.prog 11 #[.pointer (some ⟨q, 0, none⟩), .string ⟨#[97]⟩] w1 _ := create_rep w1 T1 q (M.new 100) [97] R1 (show 0 < 10000000 by decide) (by decide); rw [(x1 0).2] at c11)
    | (go_at_call 11; refine c11.mono ?_; rintro e w2 ⟨rfl, T2, b, R2, X2, _⟩; rw [(x1 b).1] at R2; have c12 : Calls Try.prog 12 #[.pointer (some ⟨q, 0, none⟩), .string ⟨#[97]⟩, .slice (some ⟨w2.heap.size, 0, none⟩) 2 2] (w2.alloc (.cells #[.int .u8 120, .int .u8 121] 5 (2, 3))) _ := append_lit w2 T2 q _ [97] [120, 121] R2 (show 1 < 1000000000 by decide) (by decide) (by decide) (by decide) (show -1000000000000 ≤ (100 : Int) by decide); rw [(x2 b).2, (x2 b).1] at c12; clear c11)
    | (go_at_call 12; refine c12.mono ?_; rintro e w3 ⟨rfl, T3, R3, X3⟩; have c13 : Calls Try.prog 13 #[.pointer (some ⟨q, 0, none⟩), .string ⟨#[97]⟩] w3 _ := sync_rep w3 T3 q _ [97] R3 (show 2 < 1000000000 by decide) (by decide); rw [(x3 b).2, (x3 b).1] at c13; clear c12)
    | (go_at_call 13; refine c13.mono ?_; rintro e w4 ⟨rfl, T4, R4, X4⟩; have c17 := fall_rep w4 T4 q _ 0 0 R4 (show 3 < 10000000 by decide); rw [(x4 b).1] at c17; clear c13)
    | (go_at_call 17; refine c17.mono ?_; rintro e w5 ⟨rfl, T5, R5, X5⟩; have c29 := list_rep w5 T5 q _ R5 (show 3 < 1000000000 by decide); rw [(x4 b).2] at c29; clear c17)
    | (go_at_call 29; refine c29.mono ?_; rintro e w6 ⟨v, rfl, L6, B6⟩; obtain ⟨A6, k6, rfl⟩ := strs_nil L6; have R6 := R5.below B6; have d11 : Calls Try.prog 11 #[.pointer (some ⟨q, 0, none⟩), .string ⟨#[98]⟩] w6 _ := create_rep w6 T5 q _ [98] R6 (show 3 < 10000000 by decide) (by decide); rw [(x5 b 0).2] at d11; clear c29)
    | (go_at_call 11; refine d11.mono ?_; rintro e w7 ⟨rfl, T7, c, R7, X7, _⟩; rw [(x5 b c).1] at R7; have d12 : Calls Try.prog 12 #[.pointer (some ⟨q, 0, none⟩), .string ⟨#[98]⟩, .slice (some ⟨w7.heap.size, 0, none⟩) 2 2] (w7.alloc (.cells #[.int .u8 120, .int .u8 121] 5 (2, 3))) _ := append_lit w7 T7 q _ [98] [120, 121] R7 (show 4 < 1000000000 by decide) (by decide) (by decide) (by decide) (show -1000000000000 ≤ (100 : Int) by decide); rw [(x6 b c).1] at d12; clear d11)
    | (go_at_call 12; refine d12.mono ?_; rintro e w8 ⟨rfl, T8, R8, X8⟩; have d13 : Calls Try.prog 13 #[.pointer (some ⟨q, 0, none⟩), .string ⟨#[98]⟩] w8 _ := sync_rep w8 T8 q _ [98] R8 (show 5 < 1000000000 by decide) (by decide); rw [x7 b c] at d13; clear d12)
    | (go_at_call 13; refine d13.mono ?_; rintro e w9 ⟨rfl, T9, R9, X9⟩; have d14 := names_rep w9 T9 q _ R9 (show 6 < 100000000 by decide); clear d13)
    | (go_at_call 14; refine d14.mono ?_; rintro e wa ⟨rfl, Ta, Ra, Xa⟩; have d17 := fall_rep wa Ta q _ 0 0 Ra (show 7 < 10000000 by decide); clear d14)
    | (go_at_call 17; refine d17.mono ?_; rintro e wb ⟨rfl, Tb, Rb, Xb⟩; have d18 : Calls Try.prog 18 #[.pointer (some ⟨q, 0, none⟩), .string ⟨#[98]⟩] wb _ := read_rep wb Tb q _ [98] Rb (by decide); rw [(x9 b c).1, (x9 b c).2] at d18; clear d17)
    | (go_at_call 18; refine d18.mono ?_; rintro e wc ⟨v, rfl, ⟨Oc, _⟩, Bc⟩; obtain ⟨Ac, kc, rfl, rc, _, _, _⟩ := Oc.form; have hcv := conv_any rc 2 kc rfl; clear d18)
    | go_in)
  have hxy : ((str [120, 121]).toList == [120, 121]) = true := by rw [str_toList]; decide
  go_ret
  have hX5 := (((X2.trans X3).trans X4).trans X5).below B1.size L1
  have hT5 : ∀ k, T5 k ≠ .none → w.heap.size ≤ k := (((X2.trans X3).trans X4).trans X5).low B1.size L1 R5
  have hX6 := ((((((X7.trans X8).trans X9).trans Xa).trans Xb)).below (B := w.heap.size) (Nat.le_trans (Nat.le_trans B1.size ((((X2.trans X3).trans X4).trans X5).size)) B6.size) hT5)
  refine ⟨ret_bool hxy, ((B1.trans hX5).trans (B6.mono ?_)).trans (hX6.trans (Bc.mono ?_))⟩
  · exact Nat.le_trans B1.size ((((X2.trans X3).trans X4).trans X5).size)
  · exact Nat.le_trans (Nat.le_trans (Nat.le_trans B1.size ((((X2.trans X3).trans X4).trans X5).size)) B6.size) ((((((X7.trans X8).trans X9).trans Xa).trans Xb)).size)
end Go.Proofs.Ytkalgonkaoiapaa.Shf
