/- The example. -/
import Derived.Test.YtkbhmdoichiinaaSC
namespace Go.Proofs.Ytkbhmdoichiinaa.Rts
open Pre Ser
open Go.Proofs.Ytkbhmdoichiinaa.Src (row1 row2)
open Go.ChangeShapes Go.WideShapes Go.ChangeAt Go.RowKit
set_option maxRecDepth 8000
set_option linter.unusedVariables false

open Go.Proofs.Ytkbhmdoichiinaa.Src (Mk SrcAt pA pN)
theorem mv_keep {lo : Nat} {W W' : World} {q : Nat} {v : Value} {L L' : List E} {ans e : Ending} (h : RtsAt lo W q L v) (M : MvSaid lo W q v L' ans e W') : ∃ v', RtsAt lo W' q L' v' ∧ Below lo W W' ∧ ∀ (k : Nat) (x : Array Value) (t : TypeId), W.heap[k]? = some (Obj.cells x t (0, 0)) → t ≠ 43 → t ≠ 72 → W'.heap[k]? = some (Obj.cells x t (0, 0)) := by
  obtain ⟨-, v', h1, h2, -⟩ := M
  refine ⟨v', h1, h2.below (Nat.le_of_lt (Nat.lt_of_le_of_lt h.le h.lt)) (fun k hk => ?_), fun k x t hr ht1 ht2 => h2.row hr (fun e => ?_)⟩
  · rcases hk with rfl | hk
    · exact h.le
    · exact (own_lt h.own hk).1
  · rcases e with e | e
    · exact row_ne hr h.row ht2 e
    · exact own_ne h.own hr ht1 e
/-- What stands while the example is tried. -/
structure AW (w W : World) (q bp : Nat) (L : List E) (v : Value) : Prop where
  b : Below w.heap.size w W
  r : RtsAt w.heap.size W q L v
  p : W.heap[bp]? = some (.cells #[.int .u32 167772160, .int .u8 8] 39 (0, 0))
theorem AW.step {w W W' : World} {q bp : Nat} {L : List E} {v : Value} (h : AW w W q bp L v) (B : Below W.heap.size W W') : AW w W' q bp L v := ⟨h.b.trans (B.mono h.b.size), h.r.kept B, brow B h.p⟩
theorem AW.mv {w W W' : World} {q bp : Nat} {L L' : List E} {v : Value} {ans e : Ending} (h : AW w W q bp L v) (M : MvSaid w.heap.size W q v L' ans e W') : ∃ v', AW w W' q bp L' v' := by
  obtain ⟨v', h1, h2, h3⟩ := mv_keep h.r M
  exact ⟨v', h.b.trans h2, h1, h3 _ _ _ h.p (by decide) (by decide)⟩
def e1 : E := ⟨167772160, 8, 1, 0, 1, 96, 50⟩
def e2 : E := ⟨167772160, 8, 2, 0, 1, 50, 50⟩
set_option maxHeartbeats 2000000 in
theorem awake_any (w : World) : Calls Try.prog 8 #[] w fun e w' => e = .returned (.bool true) ∧ Below w.heap.size w w' := by
  have ok1 : e1.Ok := ⟨by decide, by decide, by decide, by decide, by decide, by decide, by decide⟩
  have ok2 : e2.Ok := ⟨by decide, by decide, by decide, by decide, by decide, by decide, by decide⟩
  have HT1 : Hid (∀ lo W q v, RtsAt lo W q [] v → Calls Try.prog 26 #[.pointer (some ⟨q, 0, none⟩), .int .i64 1, .agg #[.int .u32 167772160, .int .u8 8], .int .i64 0, .agg #[.int .u16 1, .int .u16 96], .int .u64 0] W (MvSaid lo W q v [e1] (.returned (.int .i64 0)))) :=
    Lib.hid fun lo W q v h => tell_put W lo q v [] h List.Pairwise.nil (by decide) (fun e he => by simp at he) 167772160 8 1 0 1 96 0 (by decide) (by decide) (by decide +kernel) (by decide) (by decide) (by decide) (by decide) (by decide)
  have HT2 : Hid (∀ lo W q v, RtsAt lo W q [e1] v → Calls Try.prog 26 #[.pointer (some ⟨q, 0, none⟩), .int .i64 2, .agg #[.int .u32 167772160, .int .u8 8], .int .i64 0, .agg #[.int .u16 1, .int .u16 50], .int .u64 0] W (MvSaid lo W q v exL (.returned (.int .i64 0)))) :=
    Lib.hid fun lo W q v h => tell_put W lo q v [e1] h (List.pairwise_singleton _ _) (by decide) (fun e he => by rw [List.mem_singleton] at he; subst he; exact ok1) 167772160 8 2 0 1 50 0 (by decide) (by decide) (by decide +kernel) (by decide) (by decide) (by decide) (by decide) (by decide)
  have hup : Rising exL := by unfold Rising exL; decide
  have hok : ∀ e ∈ exL, e.Ok := fun e he => by
    simp only [exL, List.mem_cons, List.not_mem_nil, or_false] at he
    rcases he with rfl | rfl
    · exact ok1
    · exact ok2
  have HSL : Hid (∀ W lo q v ls qs cs Ac nc cc, RtsAt lo W q exL v → SrcAt ls W qs f0 cs → CostAt W Ac nc cfG → Calls Try.prog 15 #[.pointer (some ⟨q, 0, none⟩), .pointer (some ⟨qs, 0, none⟩), .slice Ac nc cc] W fun en w' => ∃ b c, en = .returned (.slice (some ⟨b, 0, none⟩) 1 c) ∧ 1 ≤ c ∧ b < w'.heap.size ∧ w'.cell? ⟨b, 2, none⟩ = some (.int .i64 2) ∧ w'.cell? ⟨b, 3, none⟩ = some (.int .u16 146) ∧ Below W.heap.size W w') :=
    Lib.hid fun W lo q v ls qs cs Ac nc cc h hs hc => (select_any W lo q v exL h hup hok (by decide) ls qs cs f0 hs Ac nc cc cfG hc).mono fun en w' ⟨vv, rs, he, h1, h2, h3, _⟩ => by
      have := h1.ext ex_sel
      subst this
      obtain ⟨A, c, hv, hle, hc⟩ := h2.form (fun _ => rfl)
      obtain ⟨b, hA, -, hbl, hc2⟩ := hc 0 (by decide)
      subst hA hv
      exact ⟨b, c, he, hle, hbl, hc2 2 (by decide), hc2 3 (by decide), h3⟩
  clear ok1 ok2 hup hok
  go_enter Try.func8, Try.ntmps8
  go_upto_region 3 with (go_at_call 9; (with_reducible refine (new_any _).mono ?_); rintro en w1 ⟨rfl, R1, B1⟩; have H1 := Lib.hid (And.intro R1 B1); clear R1 B1)
  have HA0 : Hid (AW w (w1.alloc (.cells #[.int .u32 167772160, .int .u8 8] 39)) w.heap.size w1.heap.size [] (.slice none 0 0)) := Lib.hid (AW.mk (H1.out.2.alloc H1.out.2.size _) (H1.out.1.kept ((Below.refl _ _).alloc (Nat.le_refl _) _)) (heap_alloc_new w1 _))
  clear H1
  generalize w1.alloc _ = w2 at *
  generalize w1.heap.size = bp at *
  obtain ⟨p0, p1, -⟩ := row2 HA0.out.p
  have hbl : bp < w2.heap.size := (Array.getElem?_eq_some_iff.1 HA0.out.p).1
  go_upto_region 4 with (go_at_call 26; (with_reducible refine (HT1.out _ _ _ _ HA0.out.r).mono ?_); rintro en w3 hmv; obtain ⟨v3, H3⟩ := HA0.out.mv hmv; obtain ⟨rfl, -⟩ := hmv; have HA1 := Lib.hid H3; clear H3)
  clear p0 p1 hbl HA0
  obtain ⟨p0, p1, -⟩ := row2 HA1.out.p
  have hbl : bp < w3.heap.size := (Array.getElem?_eq_some_iff.1 HA1.out.p).1
  go_upto_region 5 with (go_at_call 26; (with_reducible refine (HT2.out _ _ _ _ HA1.out.r).mono ?_); rintro en w4 hmv; obtain ⟨v4, H4⟩ := HA1.out.mv hmv; obtain ⟨rfl, -⟩ := hmv; have HA2 := Lib.hid H4; clear H4)
  clear p0 p1 hbl HA1
  go_upto_region 6 with (first
    | (go_at_call 28; (with_reducible refine (Src.New_any _).mono ?_); rintro en w5 ⟨rfl, S5, B5⟩; have HS5 := Lib.hid (And.intro S5 (HA2.out.step B5)); clear S5 B5)
    | (go_at_call 29; (with_reducible refine (good_any _).mono ?_); rintro en w6 ⟨rfl, hw6⟩; have hB6 := (Below.refl w5.heap.size w5).alloc (Nat.le_refl _) (.cells #[.int .u16 96, .int .u16 96, .int .u16 96, .int .u16 96, .int .u16 96, .int .u16 96, .int .u16 96, .int .u16 96] 32); have hC6 := good_cost w5; rw [← hw6] at hB6 hC6; have HS6 := Lib.hid (And.intro (HS5.out.1.below hB6) (And.intro (HS5.out.2.step hB6) hC6)); clear hB6 hC6 hw6)
    | (go_at_call 15; (with_reducible refine (HSL.out _ _ _ _ _ _ _ _ _ _ HS6.out.2.1.r HS6.out.1 HS6.out.2.2).mono ?_); rintro en w7 ⟨b7, c7, rfl, hc7, hb7, k2, k3, B7⟩; have H7 := Lib.hid (HS6.out.2.1.b.trans (B7.mono HS6.out.2.1.b.size)); clear B7))
  go_wp2
  go_ret
  exact ⟨rfl, H7.out⟩
end Go.Proofs.Ytkbhmdoichiinaa.Rts
