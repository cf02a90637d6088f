/- The law's own without. -/
import Derived.Test.YtkbhmdoichiinaaRl
import Derived.Laws.ResultCell
namespace Go.Proofs.Ytkbhmdoichiinaa.Rts
open Pre Ser
open Go.Proofs.Ytkbhmdoichiinaa.Src (row1 row2)
open Go.ChangeShapes Go.WideShapes Go.ChangeAt Go.RowKit
set_option maxRecDepth 8000
set_option linter.unusedVariables false

theorem own_app {w : World} {B : Nat} {v : Value} {L : List E} {e : E} (h : w.ownsRow B 43 7 v (L.length + 1) (L.flatMap E.cl ++ E.cl e)) : EOwn w B v (L ++ [e]) := by
  unfold EOwn
  rw [List.length_append, List.flatMap_append]
  simpa using h
theorem cl_at {w : World} {b : Nat} {e : E} (h : w.heap[b]? = some (.cells #[.int .u32 (e.a : Int), .int .u8 (e.n : Int), .int .i64 (e.b : Int), .int .i64 (e.d : Int), .int .u16 (e.s : Int), .int .u16 (e.m : Int), .int .u64 (e.u : Int)] 43 (0, 0))) : ∀ j u, (E.cl e)[j]? = some u → w.cell? ((⟨b, 0, none⟩ : Addr).add j) = some u := fun j u hj => by
  rw [Addr.add_lit, Nat.zero_add, cell_of_row _ _ j _ 43 (0, 0) h, ← hj]
  have : (#[.int .u32 (e.a : Int), .int .u8 (e.n : Int), .int .i64 (e.b : Int), .int .i64 (e.d : Int), .int .u16 (e.s : Int), .int .u16 (e.m : Int), .int .u64 (e.u : Int)] : Array Value) = (E.cl e).toArray := rfl
  rw [this]
  simp
theorem erase_take {L : List E} {i j : Nat} (hj : j < L.length) (hne : j ≠ i) : (L.take (j + 1)).eraseIdx i = (L.take j).eraseIdx i ++ [L[j]] := by
  rw [List.take_succ_eq_append_getElem hj]
  rcases Nat.lt_or_ge i j with h | h
  · rw [List.eraseIdx_append_of_lt_length (by rw [List.length_take]; omega)]
  · rw [List.eraseIdx_of_length_le (by simp; omega), List.eraseIdx_of_length_le (by rw [List.length_take]; omega)]
theorem erase_take' {L : List E} {j : Nat} (hj : j < L.length) : (L.take (j + 1)).eraseIdx j = (L.take j).eraseIdx j := by
  rw [List.take_succ_eq_append_getElem hj, List.eraseIdx_append_of_length_le (by rw [List.length_take]; omega), List.length_take, Nat.min_eq_left (Nat.le_of_lt hj), Nat.sub_self, List.eraseIdx_cons_zero, List.append_nil, List.eraseIdx_of_length_le (by rw [List.length_take]; omega)]
theorem set_other1 {b i : Nat} (w : World) (h : i ≠ b) (y : Value) : (w.setCell ⟨b, 0, none⟩ y).heap[i]? = w.heap[i]? := Below.heap_setCell w ⟨b, 0, none⟩ y i h
theorem results_c1 {P : Program} {fn : Func} {p : Tmp} {ty : TypeId} (h : fn.results = #[.cell p ty]) (tmps : Array Value) (w : World) (g : Nat) (t : TypeId) (cs : Array Value) (fr : Nat × Nat) (d : TypeDesc)
    (hp : tmps.getD p undef = .pointer (some ⟨g, 0, none⟩)) (hg : w.heap[g]? = some (.cells cs t fr))
    (hu : P.underlying ty = some d) (hd : (match d with | .struct _ | .array _ _ => true | _ => false) = true) (hi : (P.info? ty).map (·.size) = some cs.size) :
    (results fn tmps).run P w = .ok (.agg cs) w := by
  have hp' : tmps[p]?.getD undef = .pointer (some ⟨g, 0, none⟩) := by simpa using hp
  simp only [results, h]
  simp [hp', asAddr, run_loadVar_row w g t ty cs fr d hg hu hd hi]
theorem own_ne {w : World} {B : Nat} {v : Value} {L : List E} (h : EOwn w B v L) {k : Nat} {x : Array Value} {t : TypeId} {fr : Nat × Nat} (hr : w.heap[k]? = some (.cells x t fr)) (ht : t ≠ 43) : v.ownBlock ≠ some k := fun e => by
  rcases h.2 with ⟨hv, -⟩ | ⟨g, cap, cur, hv, hB, hg, -⟩
  · rw [hv] at e; cases e
  · rw [hv] at e
    have e : some g = some k := e
    injection e with e; subst e
    rw [hg] at hr; injection hr with hr; injection hr with _ h2 _
    exact ht h2.symm
theorem app_step {w wa w' : World} {v : Value} {L : List E} (hB : Below w.heap.size w wa) (h : EOwn wa w.heap.size v L) (g : wa.grownBy w' v.ownBlock) : Below w.heap.size w w' ∧ ∀ (k : Nat) (x : Array Value) (t : TypeId) (fr : Nat × Nat), wa.heap[k]? = some (Obj.cells x t fr) → t ≠ 43 → w'.heap[k]? = some (Obj.cells x t fr) :=
  ⟨hB.trans (Fr.below (X := fun k => v.ownBlock = some k) (Fr.grown g (fun k e => e)) hB.size (fun k e => (own_lt h e).1)), fun k x t fr hr ht => (g.block k (Array.getElem?_eq_some_iff.1 hr).1 (fun e => own_ne h hr ht e.symm)).trans hr⟩
set_option maxHeartbeats 4000000 in
theorem without_any (w : World) (A : Option Addr) (n c now : Nat) (L : List E) (hn : n = L.length) (hlen : n ≤ 1000) (hsl : ESl w A L) (i : Nat) :
    Calls Try.prog 30 #[.agg #[.slice A n c, .int .u64 (now : Int)], .int .i64 (i : Int)] w fun en w' => ∃ v', en = .returned (.agg #[v', .int .u64 (now : Int)]) ∧ EOwn w' w.heap.size v' (L.eraseIdx i) ∧ Below w.heap.size w w' := by
  obtain ⟨i0, hi0, hz0, hz1, hz2⟩ := info_parts info43
  have HI := Lib.hid (And.intro hi0 (And.intro hz0 (And.intro hz1 hz2)))
  have B1 := ((Below.refl w.heap.size w).alloc (Nat.le_refl _) (.cells #[.slice A n c, .int .u64 (now : Int)] 29)).alloc (by simp) (.cells #[.slice none 0 0, .int .u64 0] 29)
  have r0 : ((w.alloc (.cells #[.slice A n c, .int .u64 (now : Int)] 29)).alloc (.cells #[.slice none 0 0, .int .u64 0] 29)).heap[w.heap.size]? = some (.cells #[.slice A n c, .int .u64 (now : Int)] 29 (0, 0)) := (heap_alloc_old _ (.cells #[.slice none 0 0, .int .u64 0] 29) (by simp)).trans (heap_alloc_new w (.cells #[.slice A n c, .int .u64 (now : Int)] 29))
  have r1 := Src.heap_new1 w (.cells #[.slice A n c, .int .u64 (now : Int)] 29) (.cells #[.slice none 0 0, .int .u64 0] 29)
  have H0 := Lib.hid (And.intro B1 (And.intro r0 r1))
  have HH := Lib.hid (And.intro hn hsl)
  clear B1 r0 r1 hn hsl hi0 hz0 hz1 hz2
  go_enter Try.func30, Try.ntmps30
  go_wp2
  generalize (w.alloc _).alloc _ = w1 at *
  go_loopw [5, 6] (fun vv k wr => ∃ j : Nat, j ≤ n ∧ k = .int .i64 j ∧ Hid (EOwn wr w.heap.size vv ((L.take j).eraseIdx i)) ∧ Hid (Below w.heap.size w wr ∧ wr.heap[w.heap.size]? = some (.cells #[.slice A n c, .int .u64 (now : Int)] 29 (0, 0)) ∧ wr.heap[w.heap.size + 1]? = some (.cells #[.slice none 0 0, .int .u64 0] 29 (0, 0)))) (fun _ k _ => n - (intOf k).toNat)
  case atStart => exact ⟨0, Nat.zero_le _, rfl, EOwn.nil _ _, H0.out⟩
  case round =>
    obtain ⟨j, hj, rfl, HA, HB⟩ := hrel
    clear H0
    obtain ⟨q0, q1, qf⟩ := row2 HB.out.2.1
    obtain ⟨s0, s1, sf⟩ := row2 HB.out.2.2
    have hsz : w.heap.size + 1 < wr.heap.size := (Array.getElem?_eq_some_iff.1 HB.out.2.2).1
    obtain ⟨A5, c5, rfl, -, -⟩ := HA.out.form
    by_cases hlt : j < n
    · have hjl : j < L.length := by rw [← HH.out.1]; exact hlt
      by_cases hji : j = i
      · subst hji
        have HV := Lib.hid (erase_take' hjl)
        go_wp2
        go_roundw
        case rel => exact ⟨j + 1, by omega, by go_num, HV.out ▸ HA.out, HB.out⟩
        case measure => simp [intOf]; omega
      · have hji2 : ¬ (j : Int) = (i : Int) := by omega
        have HV := Lib.hid (erase_take hjl hji)
        obtain ⟨b, o, rfl, hb, hE⟩ := (HH.out.2.below HB.out.1) j hjl
        have hl5 : ((L.take j).eraseIdx i).length ≤ n := by
          have h1 := List.length_eraseIdx_le (L.take j) i
          rw [List.length_take] at h1
          omega
        generalize (L.take j).eraseIdx i = L5 at HA HV hl5
        generalize L[j] = e at hE HV
        obtain ⟨k0, k1, k2, k3, k4, k5, k6⟩ := hE
        have B6 := (Below.refl wr.heap.size wr).alloc (Nat.le_refl _) (.cells #[.int .u32 (e.a : Int), .int .u8 (e.n : Int), .int .i64 (e.b : Int), .int .i64 (e.d : Int), .int .u16 (e.s : Int), .int .u16 (e.m : Int), .int .u64 (e.u : Int)] 43)
        have HO := Lib.hid (And.intro (HA.out.kept B6) (cl_at (heap_alloc_new wr (.cells #[.int .u32 (e.a : Int), .int .u8 (e.n : Int), .int .i64 (e.b : Int), .int .i64 (e.d : Int), .int .u16 (e.s : Int), .int .u16 (e.m : Int), .int .u64 (e.u : Int)] 43))))
        have HB6 := Lib.hid B6
        clear B6
        go_upto_region 4 with ((at_builtin; refine wpList_append_own_at _ rfl _ _ 26 rfl w.heap.size 43 i0 _ 7 40 Try.underlying26 HI.out.1 HI.out.2.1 HI.out.2.2.1 HI.out.2.2.2 rfl (by decide) (.slice A5 L5.length c5) L5.length (L5.flatMap E.cl) rfl HO.out.1 ⟨wr.heap.size, 0, none⟩ 1 1 (E.cl e) rfl rfl HO.out.2 (rcl_one1 e) (by unfold maxLen; omega) (by omega) (by have := HB.out.1.size; simp; omega) ?_; intro v' w' h1 h2 _ h4; have HZ := Lib.hid (And.intro h1 (And.intro h2 h4)); clear h1 h2 h4))
        have HS := Lib.hid (app_step (HB.out.1.trans (HB6.out.mono HB.out.1.size)) HO.out.1 HZ.out.2.1)
        have HN := Lib.hid (own_app HZ.out.1)
        have HR2 := Lib.hid (And.intro (HS.out.2 _ _ _ _ (brow HB6.out HB.out.2.1) (by decide)) (HS.out.2 _ _ _ _ (brow HB6.out HB.out.2.2) (by decide)))
        clear q0 q1 qf s0 s1 sf
        go_wp2
        go_roundw
        case rel => exact ⟨j + 1, by omega, by go_num, HV.out ▸ HN.out, HS.out.1, HR2.out⟩
        case measure => simp [intOf]; omega
    · obtain rfl : j = n := by omega
      have HV := Lib.hid (show (L.take j).eraseIdx i = L.eraseIdx i by rw [List.take_of_length_le (by rw [HH.out.1]; exact Nat.le_refl _)])
      generalize (L.take j).eraseIdx i = L5 at HA HV ⊢
      have HN := Lib.hid (HV.out ▸ HA.out : EOwn wr w.heap.size (.slice A5 L5.length c5) (L.eraseIdx i))
      have G1 := Src.set_grown wr ⟨w.heap.size, 0, none⟩ (.slice A5 L5.length c5)
      clear HA
      go_wp2
      have r1' := Src.Tab_set2 ((set_other1 wr (show w.heap.size + 1 ≠ w.heap.size by omega) (.slice A5 L5.length c5)).trans HB.out.2.2) (.slice A5 L5.length c5) (.int .u64 (now : Int))
      refine bodyPost_ret (results_c1 rfl _ _ (w.heap.size + 1) 29 _ (0, 0) _ rfl r1' Try.underlying29 rfl (by kernel_rfl)) rfl ⟨_, rfl, ?_, ?_⟩
      · exact HN.out.fr (X := fun k => k = w.heap.size ∨ k = w.heap.size + 1) (((Fr.grown G1 (fun k e => Or.inl (Option.some.inj e).symm)).trans (Fr.grown (Src.set_grown _ ⟨w.heap.size + 1, 0, none⟩ _) (fun k e => Or.inr (Option.some.inj e).symm))).trans (Fr.grown (Src.set_grown _ ⟨w.heap.size + 1, 1, none⟩ _) (fun k e => Or.inr (Option.some.inj e).symm))) (fun b e0 e1 => by
          rcases e1 with e1 | e1
          · exact own_ne HN.out HB.out.2.1 (by decide) (e1 ▸ e0)
          · exact own_ne HN.out HB.out.2.2 (by decide) (e1 ▸ e0))
      · exact ((HB.out.1.setCell (p := ⟨w.heap.size, 0, none⟩) (Nat.le_refl _) _).setCell (p := ⟨w.heap.size + 1, 0, none⟩) (by show w.heap.size ≤ w.heap.size + 1; omega) _).setCell (p := ⟨w.heap.size + 1, 1, none⟩) (by show w.heap.size ≤ w.heap.size + 1; omega) _
end Go.Proofs.Ytkbhmdoichiinaa.Rts
