/- A router: the ways to its own prefixes; what the links cost. A router: marks are as near as ways. A router: its ways are sorted. A router: slices.Equal and Clone of ways; Chosen. -/
import Derived.Test.YtjbogjbopgcbhaaGreatDoorYI
import Derived.Test.YtjbogjbopgcbhaaGreatDoorSo
import Derived.Sort.OwnSorted
namespace Go.Proofs.YtjbogjbopgcbhaaGreatDoor.Eg
open Pre Ser Rts
open Go.Proofs.YtjbogjbopgcbhaaGreatDoor.Src (row1 row2 Mk SrcAt)
open Go.Proofs.YtjbogjbopgcbhaaGreatDoor.Lk (LkAt)
open Go.ChangeShapes Go.WideShapes Go.ChangeAt Go.RowKit
set_option maxRecDepth 8000
set_option linter.unusedVariables false
set_option linter.unusedSimpArgs false
def ownRo (id : Nat) (h : Hm) : Ro := ⟨h.a, h.n, id, 0, h.s⟩
theorem roapp (w : World) (B : Nat) (v : Value) (l ys : List Ro) (A : Option Addr) (m c : Nat) (hown : GOwn 40 5 Ro.cl w B v l) (hm : m = ys.length) (hs : GSl 5 Ro.cl w A ys) (hA : A = none → c = 0) (hlen : l.length ≤ 1000) (hmn : m ≤ 1000) (hB : B ≤ w.heap.size) :
    ∃ v' w', (Builtin.append_ #[37, 37] 37 #[v, .slice A m c]).run Tryz.prog w = .ok v' w' ∧ GOwn 40 5 Ro.cl w' B v' (l ++ ys) ∧ w.grownBy w' v.ownBlock ∧ (v'.ownBlock = v.ownBlock ∨ v'.ownBlock = some w.heap.size) := by
  obtain ⟨i0, hi0, hz0, hz1, hz2⟩ := info_parts info53
  exact gappm Tryz.underlying37 hi0 hz0 hz1 hz2 rfl (by decide) (fun _ => rfl) ro_one (by decide) w B v l ys A m c hown hm hs hA hlen hmn hB
theorem row3 {w : World} {b : Nat} {t : TypeId} {x0 x1 x2 : Value} (h : w.heap[b]? = some (.cells #[x0, x1, x2] t (0, 0))) : w.cell? ⟨b, 0, none⟩ = some x0 ∧ w.cell? ⟨b, 1, none⟩ = some x1 ∧ w.cell? ⟨b, 2, none⟩ = some x2 ∧ ∀ i, w.frozen? ⟨b, i, none⟩ = false :=
  ⟨cell_of_row w b 0 _ t (0, 0) h, cell_of_row w b 1 _ t (0, 0) h, cell_of_row w b 2 _ t (0, 0) h, fun i => frozen_of_row w b i _ t h⟩
set_option maxHeartbeats 4000000 in
theorem ownWays_any (w : World) (lo q : Nat) (e : Eng) (m : Mem) (h : EngAt lo w q e m) (hok : e.Ok) :
    Calls Tryz.prog 45 #[.pointer (some ⟨q, 0, none⟩)] w fun en w' => ∃ v, en = .returned v ∧ GOwn 40 5 Ro.cl w' w.heap.size v (e.own.map (ownRo e.id)) ∧ Below w.heap.size w w' := by
  obtain ⟨A, c, hv, -, hs, -⟩ := gsl_of h.p.own (fun _ => rfl)
  have c1 := h.ec.c1
  rw [hv] at c1
  have hql := h.lt
  have HQ := Lib.hid hql
  have HC0 := Lib.hid h.ec.c0
  have hl := hok.owl
  obtain ⟨N, hN⟩ : ∃ N, N = e.own.length := ⟨_, rfl⟩
  rw [← hN] at c1 hl
  have HH := Lib.hid (And.intro hN (And.intro hs hl))
  obtain ⟨id, hid⟩ : ∃ id, id = e.id := ⟨_, rfl⟩
  rw [← hid] at HC0 ⊢
  generalize e.own = own at *
  clear hs hN hid hv h hok
  go_enter Tryz.func45, Tryz.ntmps45
  go_wp2
  go_loopw [3, 11] (fun v i wr => ∃ A3 c3 n3, v = .slice A3 n3 c3 ∧ ∃ j : Nat, j ≤ N ∧ i = .int .i64 j ∧ Hid (Below w.heap.size w wr ∧ GOwn 40 5 Ro.cl wr w.heap.size (.slice A3 n3 c3) ((own.take j).map (ownRo id)))) (fun _ i _ => N - (intOf i).toNat)
  case atStart => exact ⟨none, 0, 0, rfl, 0, Nat.zero_le _, rfl, Below.refl _ _, by simpa using GOwn.nil 40 5 Ro.cl w w.heap.size⟩
  case round =>
    obtain ⟨A3, c3, n3, rfl, j, hj, rfl, HR⟩ := hrel
    by_cases hlt : j < N
    · have hjl : j < own.length := by rw [← HH.out.1]; exact hlt
      obtain ⟨bb, oo, rfl, hbb, hc0⟩ := HH.out.2.1 j hjl
      have hc := (HmAt.of hc0).keep (HR.out.1.block bb hbb)
      have hnx : (own.take (j + 1)).map (ownRo id) = (own.take j).map (ownRo id) ++ [ownRo id own[j]] := by
        rw [List.take_succ_eq_append_getElem hjl, List.map_append]; rfl
      have HRL := Lib.hid (show ((own.take j).map (ownRo id)).length ≤ 100 by rw [List.length_map, List.length_take]; have := HH.out.2.2; omega)
      have HG0 := HR
      generalize (own.take j).map (ownRo id) = rs at *
      have HNX := Lib.hid hnx
      clear hnx hc0
      generalize own[j] = x at *
      obtain ⟨a, n, s⟩ := x
      obtain ⟨k0, k1, k2⟩ := hc
      simp only at k0 k1 k2
      have hbb2 := Nat.lt_of_lt_of_le hbb HR.out.1.size
      go_upto_region 5 with (fail)
      clear k0 k1 k2 hbb hbb2
      have BA := (Below.refl wr.heap.size wr).alloc (Nat.le_refl _) (.cells #[.int .u32 (a : Int), .int .u8 (n : Int), .int .u16 (s : Int)] 134)
      have HX := Lib.hid (heap_alloc_new wr (.cells #[.int .u32 (a : Int), .int .u8 (n : Int), .int .u16 (s : Int)] 134))
      have HG := Lib.hid (HR.out.2.kept BA)
      have HBW := Lib.hid (HR.out.1.trans (BA.mono HR.out.1.size))
      clear BA HG0 HR
      generalize wr.alloc _ = w1 at *
      generalize wr.heap.size = xb at *
      have hS0 : w1.drew.heap[xb]? = some (.cells #[.int .u32 (a : Int), .int .u8 (n : Int), .int .u16 (s : Int)] 134 (0, 0)) ∧ w1.drew.cell? ⟨q, 0, none⟩ = some (.int .i64 (id : Int)) ∧ Below w.heap.size w w1.drew := ⟨HX.out, ((Ser.bcell HBW.out).1 q 0 HQ.out).trans HC0.out, HBW.out.trans (((Below.refl _ w1).drew).mono HBW.out.size)⟩
      have HG2 := Lib.hid (HG.out.kept ((Below.refl _ w1).drew))
      clear HG HX HBW
      have HG := HG2
      clear HG2
      refine wp_region_noPanic ?_
      refine wp_region_held_drew (S := fun y9 : World => y9.heap[xb]? = some (.cells #[.int .u32 (a : Int), .int .u8 (n : Int), .int .u16 (s : Int)] 134 (0, 0)) ∧ y9.cell? ⟨q, 0, none⟩ = some (.int .i64 (id : Int)) ∧ Below w.heap.size w y9) (by kernel_rfl) hS0 (fun hHeld => ?_)
      clear hS0
      generalize w1.drew = wd at *
      refine wpAnyH_take (i := 0) (oi := ⟨some 15, .move (.tmp 3), 37, "engine.go:204", #[], none⟩) (v := .slice A3 n3 c3) rfl (by kernel_rfl) (by kernel_rfl) (by kernel_rfl) (fun _ _ _ h => h) (Or.inl ⟨by rfl, fun w hSw => by go_simp⟩) (by assumption) ?_
      try simp only [Act.put, List.setIfInBounds_toArray, List.set_cons_zero, List.set_cons_succ]
      refine wpAnyH_take (i := 1) (oi := ⟨some 16, .fieldAddr 134 (.tmp 5) 0, 0, "engine.go:204", #[], none⟩) (v := .pointer (some ⟨xb, 0, none⟩)) rfl (by kernel_rfl) (by kernel_rfl) (by kernel_rfl) (fun _ _ _ h => h) (Or.inl ⟨by rfl, fun w hSw => by go_simp⟩) (by assumption) ?_
      try simp only [Act.put, List.setIfInBounds_toArray, List.set_cons_zero, List.set_cons_succ]
      refine wpAnyH_take (i := 2) (oi := ⟨some 17, .load 30 (.tmp 16), 30, "engine.go:204", #[⟨1, .data⟩], none⟩) (v := .agg #[.int .u32 (a : Int), .int .u8 (n : Int)]) rfl (by kernel_rfl) (by kernel_rfl) (by kernel_rfl) (fun _ _ _ h => h) (Or.inl ⟨by rfl, fun w hSw => by obtain ⟨p0, p1, p2, -⟩ := row3 hSw.1; go_simp⟩) (by assumption) ?_
      try simp only [Act.put, List.setIfInBounds_toArray, List.set_cons_zero, List.set_cons_succ]
      refine wpAnyH_take (i := 3) (oi := ⟨some 18, .move (.tmp 0), 24, "engine.go:204", #[], none⟩) (v := .pointer (some ⟨q, 0, none⟩)) rfl (by kernel_rfl) (by kernel_rfl) (by kernel_rfl) (fun _ _ _ h => h) (Or.inl ⟨by rfl, fun w hSw => by go_simp⟩) (by assumption) ?_
      try simp only [Act.put, List.setIfInBounds_toArray, List.set_cons_zero, List.set_cons_succ]
      refine wpAnyH_take (i := 4) (oi := ⟨some 19, .nilCheck (.tmp 18), 0, "engine.go:204", #[⟨3, .data⟩], none⟩) (v := .pointer (some ⟨q, 0, none⟩)) rfl (by kernel_rfl) (by kernel_rfl) (by kernel_rfl) (fun _ _ _ h => h) (Or.inl ⟨by rfl, fun w hSw => by go_simp⟩) (by assumption) ?_
      try simp only [Act.put, List.setIfInBounds_toArray, List.set_cons_zero, List.set_cons_succ]
      refine wpAnyH_take (i := 5) (oi := ⟨some 20, .fieldAddr 95 (.tmp 19) 0, 0, "engine.go:204", #[⟨4, .data⟩], none⟩) (v := .pointer (some ⟨q, 0, none⟩)) rfl (by kernel_rfl) (by kernel_rfl) (by kernel_rfl) (fun _ _ _ h => h) (Or.inl ⟨by rfl, fun w hSw => by go_simp⟩) (by assumption) ?_
      try simp only [Act.put, List.setIfInBounds_toArray, List.set_cons_zero, List.set_cons_succ]
      refine wpAnyH_take (i := 6) (oi := ⟨some 21, .load 3 (.tmp 20), 3, "engine.go:204", #[⟨5, .data⟩], none⟩) (v := .int .i64 (id : Int)) rfl (by kernel_rfl) (by kernel_rfl) (by kernel_rfl) (fun _ _ _ h => h) (Or.inl ⟨by rfl, fun w hSw => by have c0 := hSw.2.1; go_simp⟩) (by assumption) ?_
      try simp only [Act.put, List.setIfInBounds_toArray, List.set_cons_zero, List.set_cons_succ]
      refine wpAnyH_take (i := 7) (oi := ⟨some 22, .fieldAddr 134 (.tmp 5) 1, 0, "engine.go:204", #[], none⟩) (v := .pointer (some ⟨xb, 2, none⟩)) rfl (by kernel_rfl) (by kernel_rfl) (by kernel_rfl) (fun _ _ _ h => h) (Or.inl ⟨by rfl, fun w hSw => by go_simp⟩) (by assumption) ?_
      try simp only [Act.put, List.setIfInBounds_toArray, List.set_cons_zero, List.set_cons_succ]
      refine wpAnyH_take (i := 8) (oi := ⟨some 23, .load 22 (.tmp 22), 22, "engine.go:204", #[⟨7, .data⟩], none⟩) (v := .int .u16 (s : Int)) rfl (by kernel_rfl) (by kernel_rfl) (by kernel_rfl) (fun _ _ _ h => h) (Or.inl ⟨by rfl, fun w hSw => by obtain ⟨p0, p1, p2, -⟩ := row3 hSw.1; go_simp⟩) (by assumption) ?_
      try simp only [Act.put, List.setIfInBounds_toArray, List.set_cons_zero, List.set_cons_succ]
      refine wpAnyH_take (i := 9) (oi := ⟨some 24, .build 40 #[(0, .tmp 17), (1, .tmp 21), (3, .tmp 23)], 40, "engine.go:204", #[⟨2, .data⟩, ⟨6, .data⟩, ⟨8, .data⟩], none⟩) (v := .agg #[.int .u32 (a : Int), .int .u8 (n : Int), .int .i64 (id : Int), .int .u16 0, .int .u16 (s : Int)]) rfl (by kernel_rfl) (by kernel_rfl) (by kernel_rfl) (fun _ _ _ h => h) (Or.inl ⟨by rfl, fun w hSw => by go_simp⟩) (by assumption) ?_
      try simp only [Act.put, List.setIfInBounds_toArray, List.set_cons_zero, List.set_cons_succ]
      refine wpAnyH_ready (rs := [10]) (by kernel_rfl) (by simp) ?_
      refine (AllReadyH.cons (o := ⟨some 25, .buildSlice 37 1 #[(0, .tmp 24)], 37, "engine.go:204", #[⟨9, .data⟩], none⟩) rfl (fun K hK => ?_) AllReadyH.nil)
      have BA := (Below.refl wd.heap.size wd).alloc (Nat.le_refl _) (.cells #[.int .u32 (a : Int), .int .u8 (n : Int), .int .i64 (id : Int), .int .u16 0, .int .u16 (s : Int)] 40)
      go_simp
      refine hK.out _ _ (⟨brow BA hHeld.1, ((Ser.bcell BA).1 q 0 (Nat.lt_of_lt_of_le HQ.out hHeld.2.2.size)).trans hHeld.2.1, hHeld.2.2.trans (BA.mono hHeld.2.2.size)⟩) (fun hHeld2 => ?_)
      clear hK K hHeld
      have hHeld := hHeld2
      clear hHeld2
      try simp only [Act.put, List.setIfInBounds_toArray, List.set_cons_zero, List.set_cons_succ]
      have hrow : (wd.alloc (.cells #[.int .u32 (a : Int), .int .u8 (n : Int), .int .i64 (id : Int), .int .u16 0, .int .u16 (s : Int)] 40)).heap[wd.heap.size]? = some (.cells (Ro.cl ⟨a, n, id, 0, s⟩).toArray 40 (0, 0)) := heap_alloc_new wd (.cells #[.int .u32 (a : Int), .int .u8 (n : Int), .int .i64 (id : Int), .int .u16 0, .int .u16 (s : Int)] 40)
      have HGS := Lib.hid (gsl_row (k := 5) hrow)
      have HG2 := Lib.hid (HG.out.kept BA)
      clear hrow HG BA
      generalize wd.alloc _ = wd3 at *
      generalize wd.heap.size = z at *
      generalize wd3 = wd at *
      have HG := HG2
      clear HG2
      refine wpAnyH_ready (rs := [11]) (by kernel_rfl) (by simp) ?_
      refine (AllReadyH.cons (o := ⟨some 26, .call ⟨.builtin .append, #[.tmp 15, .tmp 25], #[37, 37]⟩, 37, "engine.go:204", #[⟨0, .data⟩, ⟨10, .data⟩], none⟩) rfl (fun K hK => ?_) AllReadyH.nil)
      obtain ⟨v5, wd2, hrun, O5, G5, L5⟩ := roapp wd w.heap.size (.slice A3 n3 c3) rs [⟨a, n, id, 0, s⟩] (some ⟨z, 0, none⟩) 1 1 HG.out rfl HGS.out (fun h => by cases h) (by have := HRL.out; omega) (by decide) hHeld.2.2.size
      refine Lib.wp_append_run _ (.tmp 15) (.tmp 25) 37 37 rfl _ _ rfl rfl _ _ hrun ?_
      obtain ⟨A5, c5, hv5, -⟩ := O5.form (fun _ => rfl)
      obtain ⟨n5, hn5⟩ : ∃ n5, n5 = (rs ++ [(⟨a, n, id, 0, s⟩ : Ro)]).length := ⟨_, rfl⟩
      rw [← hn5] at hv5
      have hFF : Below w.heap.size wd wd2 := Fr.below (X := fun k => (Value.slice A3 n3 c3).ownBlock = some k) (Fr.grown G5 (fun k e => e)) hHeld.2.2.size (fun k e => (HG.out.lt e).1)
      have hS5 : wd2.heap[xb]? = some (.cells #[.int .u32 (a : Int), .int .u8 (n : Int), .int .u16 (s : Int)] 134 (0, 0)) ∧ wd2.cell? ⟨q, 0, none⟩ = some (.int .i64 (id : Int)) ∧ Below w.heap.size w wd2 := ⟨(G5.block xb (Array.getElem?_eq_some_iff.1 hHeld.1).1 (fun e9 => HG.out.ne hHeld.1 (by decide) e9.symm)).trans hHeld.1, (World.cell?_of_block (a := ⟨q, 0, none⟩) (hFF.block q HQ.out)).trans hHeld.2.1, hHeld.2.2.trans hFF⟩
      have HO5 := Lib.hid (hv5 ▸ O5)
      subst hv5
      clear O5 G5 L5 hrun hn5 hFF HG
      refine hK.out _ _ (hS5) (fun hHeld2 => ?_)
      clear hK K hHeld
      have hHeld := hHeld2
      clear hHeld2
      try simp only [Act.put, List.setIfInBounds_toArray, List.set_cons_zero, List.set_cons_succ]
      clear hS5
      generalize wd2 = wd at *
      refine wpAnyH_take (i := 12) (oi := ⟨some 3, .assign (.tmp 26), 37, "engine.go:204", #[⟨11, .data⟩, ⟨11, .chain⟩, ⟨0, .phase⟩, ⟨1, .phase⟩, ⟨2, .phase⟩, ⟨3, .phase⟩, ⟨4, .phase⟩, ⟨5, .phase⟩, ⟨6, .phase⟩, ⟨7, .phase⟩, ⟨8, .phase⟩, ⟨9, .phase⟩, ⟨10, .phase⟩, ⟨11, .phase⟩], none⟩) (v := .slice A5 n5 c5) rfl (by kernel_rfl) (by kernel_rfl) (by kernel_rfl) (fun _ _ _ h => h) (Or.inl ⟨by rfl, fun w hSw => by go_simp⟩) (by assumption) ?_
      try simp only [Act.put, List.setIfInBounds_toArray, List.set_cons_zero, List.set_cons_succ]
      refine wpAnyH_done (by kernel_rfl) ?_ _
      try unfold NoPanic
      have HB5 := Lib.hid hHeld.2.2
      clear hHeld
      go_wp2
      go_roundw
      case rel => exact ⟨A5, c5, n5, rfl, j + 1, by omega, by go_num, HB5.out, by rw [HNX.out]; exact HO5.out⟩
      case measure => simp [intOf]; omega
    · obtain rfl : j = N := by omega
      have hE : own.take j = own := by rw [HH.out.1, List.take_length]
      rw [hE] at HR
      go_wp2
      go_ret
      exact ⟨_, rfl, HR.out.2, HR.out.1⟩
def Eng.cost (e : Eng) (k : Nat) : Nat := match e.nb.find? (fun y => y.1 == k) with | some y => y.2.cost | none => 65535
def costRow (e : Eng) (j : Nat) : Array Value := ((List.range 16).map fun k => Value.int .u16 (if k < j then (e.cost k : Int) else 0)).toArray
theorem costRow_set (e : Eng) (j : Nat) (hj : j < 16) : (costRow e j).setIfInBounds j (.int .u16 (e.cost j : Int)) = costRow e (j + 1) := by
  unfold costRow
  apply Array.ext'
  simp only [Array.toList_setIfInBounds]
  apply List.ext_getElem
  · simp
  · intro i h1 h2
    simp only [List.getElem_set, List.getElem_map, List.getElem_range]
    split
    · rename_i e9; subst e9; simp
    · rename_i e9
      congr 1
      by_cases h3 : i < j
      · rw [if_pos h3, if_pos (by omega)]
      · rw [if_neg h3, if_neg (by omega)]
theorem cost_le {e : Eng} (hok : e.Ok) (k : Nat) : e.cost k ≤ 65535 := by
  unfold Eng.cost
  split
  · rename_i y hy
    have := (hok.nbk y (List.mem_of_find?_eq_some hy)).1.t
    unfold Lk.L.cost
    split <;> omega
  · exact Nat.le_refl _
theorem costOf (w : World) (lo q : Nat) (e : Eng) (m : Mem) (h : EngAt lo w q e m) (hok : e.Ok) (k : Nat) : ∃ p : Value, (∀ W, Below w.heap.size w W → Calls Tryz.prog 93 #[.pointer (some ⟨q, 0, none⟩), .int .i64 (k : Int)] W fun en w' => en = .returned p ∧ Below W.heap.size W w') ∧ (∀ W, Below w.heap.size w W → Calls Tryz.prog 68 #[p] W fun en w' => en = .returned (.int .u16 (e.cost k : Nat)) ∧ Below W.heap.size W w') ∧ ((∃ b, p = .pointer (some ⟨b, 0, none⟩)) ∨ p = .pointer none) := by
  unfold Eng.cost
  cases hf : e.nb.find? (fun y => y.1 == k) with
  | none =>
    have hno : ∀ y ∈ e.nb, y.1 ≠ k := fun y hy he => by
      have := List.find?_eq_none.1 hf y hy
      simp [he] at this
    refine ⟨.pointer none, fun W B => linkOf_none W lo q e m (h.step B) hok k hno, fun W B => (Lk.cost_nil W).mono ?_, Or.inr rfl⟩
    rintro en w' ⟨rfl, rfl⟩
    exact ⟨rfl, Below.refl _ _⟩
  | some y =>
    have hm := List.mem_of_find?_eq_some hf
    have hk : y.1 = k := by have := List.find?_some hf; simpa using this
    obtain ⟨i, hi, hiy⟩ := List.getElem_of_mem hm
    have hil : i < m.ls.length := by rw [h.p.lsl]; exact hi
    refine ⟨.pointer (some ⟨m.ls[i], 0, none⟩), fun W B => ?_, fun W B => ?_, Or.inl ⟨_, rfl⟩⟩
    · have := linkOf_some W lo q e m (h.step B) hok i m.ls[i] hi (List.getElem?_eq_getElem hil)
      rw [hiy, hk] at this
      exact this
    · have hz : i < (List.zip e.nb m.ls).length := by rw [List.length_zip]; omega
      have hlk := (h.step B).p.lks _ (List.getElem_mem hz)
      rw [List.getElem_zip, hiy] at hlk
      refine (Lk.cost_any W m.ls[i] y.2 hlk.2 (hok.nbk y hm).1.c).mono ?_
      rintro en w' ⟨rfl, n, rfl⟩
      exact ⟨rfl, ⟨rfl, rfl, rfl, Nat.le_refl _, fun _ _ => rfl⟩⟩
set_option maxHeartbeats 2000000 in
theorem costs_any (w : World) (lo q : Nat) (e : Eng) (m : Mem) (h : EngAt lo w q e m) (hok : e.Ok) :
    Calls Tryz.prog 47 #[.pointer (some ⟨q, 0, none⟩)] w fun en w' => ∃ z, en = .returned (.slice (some ⟨z, 0, none⟩) 16 16) ∧ CostAt w' (some ⟨z, 0, none⟩) 16 (fun k => if k < 16 then e.cost k else 65535) ∧ Below w.heap.size w w' := by
  have HCO := Lib.hid (fun W (B : Below w.heap.size w W) (k : Nat) => costOf W lo q e m (h.step B) hok k)
  have HLE := Lib.hid (fun k => cost_le hok k)
  clear h hok
  go_enter Tryz.func47, Tryz.ntmps47
  go_wp2
  go_loopw [4, 5] (fun _ i wr => ∃ j : Nat, j ≤ 16 ∧ i = .int .i64 j ∧ Hid (Below w.heap.size w wr ∧ wr.heap[w.heap.size]? = some (.cells (costRow e j) 154 (0, 0)))) (fun _ i _ => 16 - (intOf i).toNat)
  case atStart => exact ⟨0, Nat.zero_le _, rfl, (Below.refl _ _).alloc (Nat.le_refl _) _, heap_alloc_new w _⟩
  case round =>
    obtain ⟨j, hj, rfl, HR⟩ := hrel
    by_cases hlt : j < 16
    · obtain ⟨p, hp1, hp2, hp3⟩ := HCO.out wr HR.out.1 j
      have hc0 : ∀ W, Below wr.heap.size wr W → W.heap[w.heap.size]? = some (.cells (costRow e j) 154 (0, 0)) := fun W B => brow B HR.out.2
      have hcl : ∀ W, Below wr.heap.size wr W → W.cell? ⟨w.heap.size, j, none⟩ = some (.int .u16 0) := fun W B => by
        rw [cell_of_row W _ j _ 154 (0, 0) (hc0 W B)]
        unfold costRow
        simp [hlt]
      have HP := Lib.hid (And.intro hp1 (And.intro hp2 (And.intro hc0 hcl)))
      have HSET := Lib.hid (costRow_set e j hlt)
      clear hp1 hp2 hc0 hcl
      generalize e.cost j = ck at *
      obtain ⟨row, hrow⟩ : ∃ row, row = costRow e j := ⟨_, rfl⟩
      rw [← hrow] at HP HSET
      clear hrow
      rcases hp3 with ⟨pb, rfl⟩ | rfl
      all_goals
        go_wp2_with (first
          | (go_at_call 93; (with_reducible refine (HP.out.1 _ (Below.refl _ _)).mono ?_); rintro en w5 ⟨rfl, B5⟩; have HB5 := Lib.hid B5; clear B5)
          | (go_at_call 68; (with_reducible refine (HP.out.2.1 _ HB5.out).mono ?_); rintro en w6 ⟨rfl, B6⟩; have HB6 := Lib.hid (HB5.out.trans (B6.mono HB5.out.size)); clear B6; have hcj := HP.out.2.2.2 w6 HB6.out; have hfj := frozen_of_row w6 w.heap.size j _ 154 (HP.out.2.2.1 w6 HB6.out); have hzl := (Array.getElem?_eq_some_iff.1 (HP.out.2.2.1 w6 HB6.out)).1))
        go_roundw
        case rel => exact ⟨j + 1, by omega, by go_num, (HR.out.1.trans (HB6.out.mono HR.out.1.size)).setCell (Nat.le_refl _) _, by rw [heap_setCell_same w6 w.heap.size j _ 154 _ (HP.out.2.2.1 w6 HB6.out), HSET.out]⟩
        case measure => simp [intOf]; omega
    · obtain rfl : j = 16 := by omega
      go_wp2
      go_ret
      refine ⟨_, rfl, ⟨fun k hk => ⟨w.heap.size, 0, rfl, (Array.getElem?_eq_some_iff.1 HR.out.2).1, ?_⟩, fun k hk => if_neg (by omega), fun k => ?_⟩, HR.out.1⟩
      · rw [Nat.zero_add, cell_of_row _ _ k _ 154 (0, 0) HR.out.2]
        unfold costRow
        simp [hk]
      · show (if k < 16 then e.cost k else 65535) ≤ 65535
        split
        · exact HLE.out k
        · exact Nat.le_refl _
end Go.Proofs.YtjbogjbopgcbhaaGreatDoor.Eg
namespace Go.Proofs.YtjbogjbopgcbhaaGreatDoor.Eg
open Pre Ser Rts
open Go.Proofs.YtjbogjbopgcbhaaGreatDoor.Src (row1 row2 Mk SrcAt)
open Go.Proofs.YtjbogjbopgcbhaaGreatDoor.Lk (LkAt)
open Go.ChangeShapes Go.WideShapes Go.ChangeAt Go.RowKit
set_option maxRecDepth 8000
set_option linter.unusedVariables false
set_option linter.unusedSimpArgs false
open Go.Proofs.YtjbogjbopgcbhaaGreatDoor.Src (pv mv)
theorem gK {α : Type} {t : TypeId} {k : Nat} {cl : α → List Value} {lo : Nat} {w w' : World} {B : Nat} {v : Value} {l : List α} (h : GOwn t k cl w B v l) (K : Src.K lo w w') (ht : t ≠ 167) : GOwn t k cl w' B v l := by
  rcases h with ⟨h0, h1 | ⟨g, cap, cur, hv, hB, hg, h2⟩⟩
  · exact ⟨h0, Or.inl h1⟩
  · exact ⟨h0, Or.inr ⟨g, cap, cur, hv, hB, K.cells g cur t (0, 0) hg ht, h2⟩⟩
theorem EngAt.low {lo : Nat} {w w' : World} {q : Nat} {e : Eng} {m : Mem} {f' : Mk} {c' : Nat} (h : EngAt lo w q e m) (S : SrcAt lo w' m.qs f' c') (K : Src.K lo w w') : EngAt lo w' q { e with f := f', c := c' } m :=
  ⟨K.cells _ _ _ _ h.row (by decide), h.le, ⟨gK h.p.own K (by decide), S, ⟨K.cells _ _ _ _ h.p.rts.row (by decide), gK (t := 173) (k := 7) (cl := E.cl) h.p.rts.own K (by decide), h.p.rts.ne, h.p.rts.le⟩, gK h.p.nbs K (by decide), h.p.lsl, fun x hx => by
    obtain ⟨h1, h2⟩ := h.p.lks x hx
    exact ⟨h1, K.cells _ _ _ _ h2 (by decide)⟩, h.p.nd, gK h.p.ch K (by decide), gK h.p.lost K (by decide), gK h.p.rq K (by decide), Lk.tab_below h.p.tab K.below h.p.lo0, h.p.lo0⟩⟩
theorem Ef.ofK {lo : Nat} {X : Nat → Prop} {w w' : World} (K : Src.K lo w w') : Ef lo X w w' := ⟨K.below, fun i x t fr e ht _ => K.cells i x t fr e ht⟩
theorem markOf_any (w : World) (r : Ro) : Calls Tryz.prog 88 #[.agg #[.int .u32 (r.a : Int), .int .u8 (r.n : Int), .int .i64 (r.v : Int), .int .u16 (r.m : Int), .int .u16 (r.s : Int)]] w fun en w' => en = .returned (.agg #[.int .u16 (r.s : Int), .int .u16 (r.m : Int)]) ∧ Below w.heap.size w w' := by
  have B0 := ((Below.refl w.heap.size w).alloc (Nat.le_refl _) (.cells #[.int .u32 (r.a : Int), .int .u8 (r.n : Int), .int .i64 (r.v : Int), .int .u16 (r.m : Int), .int .u16 (r.s : Int)] 40)).alloc (by simp) (.cells #[.int .u16 0, .int .u16 0] 48)
  have r1 := Src.heap_new1 w (.cells #[.int .u32 (r.a : Int), .int .u8 (r.n : Int), .int .i64 (r.v : Int), .int .u16 (r.m : Int), .int .u16 (r.s : Int)] 40) (.cells #[.int .u16 0, .int .u16 0] 48)
  go_enter Tryz.func88, Tryz.ntmps88
  go_wp2
  exact bodyPost_ret (v := .agg #[.int .u16 (r.s : Int), .int .u16 (r.m : Int)]) (by simp [results, Tryz.results88, go_sem]) rfl ⟨rfl, ((Below.refl w.heap.size w).alloc (Nat.le_refl _) _).alloc (by simp) _⟩
def Eng.low1 (e : Eng) (r : Ro) : Eng := { e with f := e.f.put r.a r.n (e.f.best r.a r.n (r.s, r.m)), c := if (e.f r.a r.n).isSome then e.c else e.c + 1 }
def Eng.lows (e : Eng) (ws : List Ro) : Eng := ws.foldl Eng.low1 e
theorem low1_c (e : Eng) (r : Ro) : (e.low1 r).c ≤ e.c + 1 := by
  unfold Eng.low1
  dsimp only
  split <;> omega
theorem lows_c : ∀ (ws : List Ro) (e : Eng), (e.lows ws).c ≤ e.c + ws.length
  | [], e => Nat.le_refl _
  | r :: ws, e => by
    have h1 := lows_c ws (e.low1 r)
    have h2 := low1_c e r
    show ((e.low1 r).lows ws).c ≤ _
    rw [List.length_cons]; omega
set_option maxHeartbeats 8000000 in
theorem marked_any (w : World) (lo q : Nat) (e : Eng) (m : Mem) (h : EngAt lo w q e m) (A : Option Addr) (n c : Nat) (ws : List Ro) (hn : n = ws.length) (hs : GSl 5 Ro.cl w A ws) (hA : ∀ b o, A = some ⟨b, o, none⟩ → ∃ cur, w.heap[b]? = some (.cells cur 40 (0, 0))) (hws : ∀ r ∈ ws, r.a < 4294967296 ∧ r.n < 256 ∧ Pre.right r.a r.n = true ∧ r.m < 65535) (hc : e.c + ws.length ≤ 255) :
    Calls Tryz.prog 44 #[.pointer (some ⟨q, 0, none⟩), .slice A n c] w fun en w' => ∃ v, en = .returned v ∧ GOwn 40 5 Ro.cl w' w.heap.size v ws ∧ EngAt lo w' q (e.lows ws) m ∧ Src.K lo w w' := by
  have HXW := Lib.hid (fun k (hk : m.X q k) => (h.x_lt hk).2.1)
  have HLO := Lib.hid h.los
  have HS := Lib.hid (fun W (K : Src.K lo w W) => show GSl 5 Ro.cl W A ws from fun j' hj' => by
    obtain ⟨b', o', e', hb', hc'⟩ := hs j' hj'
    obtain ⟨cur, hr⟩ := hA b' o' e'
    exact ⟨b', o', e', Nat.lt_of_lt_of_le hb' K.below.size, fun i hi => (World.cell?_of_block (a := ⟨b', o' + j' * 5 + i, none⟩) ((K.cells _ _ _ _ hr (by decide)).trans hr.symm)).trans (hc' i hi)⟩)
  have H0 := Lib.hid h
  have hn9 : n ≤ 255 := by omega
  have HH := Lib.hid (And.intro hn (And.intro hws hc))
  clear h hs hA hn hws hc
  go_enter Tryz.func44, Tryz.ntmps44
  go_wp2
  go_loopw [5, 10] (fun v i wr => ∃ A3 c3 n3, v = .slice A3 n3 c3 ∧ ∃ j : Nat, j ≤ n ∧ i = .int .i64 j ∧ Hid (EngAt lo wr q (e.lows (ws.take j)) m ∧ Src.K lo w wr ∧ GOwn 40 5 Ro.cl wr w.heap.size (.slice A3 n3 c3) (ws.take j))) (fun _ i _ => n - (intOf i).toNat)
  case atStart => exact ⟨none, 0, 0, rfl, 0, Nat.zero_le _, rfl, H0.out, Src.K.refl _ _, by simpa using GOwn.nil 40 5 Ro.cl w w.heap.size⟩
  case round =>
    obtain ⟨A3, c3, n3, rfl, j, hj, rfl, HR⟩ := hrel
    clear H0
    by_cases hlt : j < n
    · have hjl : j < ws.length := by rw [← HH.out.1]; exact hlt
      obtain ⟨bb, oo, rfl, hbb, hc0⟩ := HS.out wr HR.out.2.1 j hjl
      have hc := RoAt.of hc0
      have hnx : ws.take (j + 1) = ws.take j ++ [ws[j]] := List.take_succ_eq_append_getElem hjl
      have hnl : e.lows (ws.take (j + 1)) = (e.lows (ws.take j)).low1 ws[j] := by
        unfold Eng.lows
        rw [hnx, List.foldl_append]; rfl
      have hro := HH.out.2.1 _ (List.getElem_mem hjl)
      have hcj : (e.lows (ws.take j)).c ≤ 255 := by
        have h1 := lows_c (ws.take j) e
        rw [List.length_take] at h1
        have := HH.out.2.2
        omega
      have hcj2 : (e.lows (ws.take j)).c < 256 := by omega
      have HRL := Lib.hid (show (ws.take j).length ≤ 1000 by rw [List.length_take]; omega)
      have HRJ := HR
      clear HR
      have HNX := Lib.hid hnx
      have HNL := Lib.hid hnl
      clear hnx hnl hc0
      generalize e.lows (ws.take j) = ej at *
      generalize ws.take j = rs at *
      generalize ws[j] = r at *
      have HRO := Lib.hid (And.intro hro.1 (And.intro hro.2.1 (And.intro hro.2.2.1 (And.intro hro.2.2.2 hcj2))))
      clear hro hcj hcj2
      obtain ⟨k0, k1, k2, k3, k4⟩ := hc
      go_upto_region 5 with (fail)
      clear k0 k1 k2 k3 k4 hbb
      have BA := (Below.refl wr.heap.size wr).alloc (Nat.le_refl _) (.cells #[.int .u32 (r.a : Int), .int .u8 (r.n : Int), .int .i64 (r.v : Int), .int .u16 (r.m : Int), .int .u16 (r.s : Int)] 40)
      have HX := Lib.hid (heap_alloc_new wr (.cells #[.int .u32 (r.a : Int), .int .u8 (r.n : Int), .int .i64 (r.v : Int), .int .u16 (r.m : Int), .int .u16 (r.s : Int)] 40))
      have HG := Lib.hid (HRJ.out.2.2.kept BA)
      have HE := Lib.hid (HRJ.out.1.step BA)
      have HKW := Lib.hid (Src.K.trans HRJ.out.2.1 (Src.K.of BA HRJ.out.1.los))
      clear BA HRJ
      generalize wr.alloc _ = w1 at *
      generalize wr.heap.size = xb at *
      have HQ := Lib.hid HE.out.row
      have HE9 := Lib.hid (HE.out.step ((Below.refl _ w1).drew))
      have HG9 := Lib.hid (HG.out.kept ((Below.refl _ w1).drew))
      have hS0 := Src.K.of (lo := lo) ((Below.refl _ w1).drew) HE.out.los
      clear HE HG
      have HE := HE9
      have HG := HG9
      clear HE9 HG9
      refine wp_region_noPanic ?_
      refine wp_region_held_drew (S := fun y9 : World => Src.K lo w1 y9) (by kernel_rfl) hS0 (fun hHeld => ?_)
      clear hS0
      generalize w1.drew = wd at *
      refine wpAnyH_take (i := 0) (oi := ⟨some 14, .move (.tmp 0), 24, "engine.go:231", #[], none⟩) (v := .pointer (some ⟨q, 0, none⟩)) rfl (by kernel_rfl) (by kernel_rfl) (by kernel_rfl) (fun _ _ _ h => h) (Or.inl ⟨by rfl, fun w hSw => by go_simp⟩) (by assumption) ?_
      try simp only [Act.put, List.setIfInBounds_toArray, List.set_cons_zero, List.set_cons_succ]
      refine wpAnyH_take (i := 1) (oi := ⟨some 15, .nilCheck (.tmp 14), 0, "engine.go:231", #[⟨0, .data⟩], none⟩) (v := .pointer (some ⟨q, 0, none⟩)) rfl (by kernel_rfl) (by kernel_rfl) (by kernel_rfl) (fun _ _ _ h => h) (Or.inl ⟨by rfl, fun w hSw => by go_simp⟩) (by assumption) ?_
      try simp only [Act.put, List.setIfInBounds_toArray, List.set_cons_zero, List.set_cons_succ]
      refine wpAnyH_take (i := 2) (oi := ⟨some 16, .fieldAddr 95 (.tmp 15) 2, 0, "engine.go:231", #[⟨1, .data⟩], none⟩) (v := .pointer (some ⟨q, 2, none⟩)) rfl (by kernel_rfl) (by kernel_rfl) (by kernel_rfl) (fun _ _ _ h => h) (Or.inl ⟨by rfl, fun w hSw => by go_simp⟩) (by assumption) ?_
      try simp only [Act.put, List.setIfInBounds_toArray, List.set_cons_zero, List.set_cons_succ]
      refine wpAnyH_take (i := 3) (oi := ⟨some 17, .load 89 (.tmp 16), 89, "engine.go:231", #[⟨2, .data⟩], none⟩) (v := .pointer (some ⟨m.qs, 0, none⟩)) rfl (by kernel_rfl) (by kernel_rfl) (by kernel_rfl) (fun _ _ _ h => h) (Or.inl ⟨by rfl, fun w hSw => by have c2 : _ = some (Value.pointer (some ⟨m.qs, 0, none⟩)) := cell_of_row _ q 2 _ 95 (0, 0) (hSw.cells _ _ _ _ HQ.out (by decide)); go_simp⟩) (by assumption) ?_
      try simp only [Act.put, List.setIfInBounds_toArray, List.set_cons_zero, List.set_cons_succ]
      refine wpAnyH_take (i := 4) (oi := ⟨some 18, .fieldAddr 40 (.tmp 7) 0, 0, "engine.go:231", #[], none⟩) (v := .pointer (some ⟨xb, 0, none⟩)) rfl (by kernel_rfl) (by kernel_rfl) (by kernel_rfl) (fun _ _ _ h => h) (Or.inl ⟨by rfl, fun w hSw => by go_simp⟩) (by assumption) ?_
      try simp only [Act.put, List.setIfInBounds_toArray, List.set_cons_zero, List.set_cons_succ]
      refine wpAnyH_take (i := 5) (oi := ⟨some 19, .load 30 (.tmp 18), 30, "engine.go:231", #[⟨4, .data⟩], none⟩) (v := .agg #[.int .u32 (r.a : Int), .int .u8 (r.n : Int)]) rfl (by kernel_rfl) (by kernel_rfl) (by kernel_rfl) (fun _ _ _ h => h) (Or.inl ⟨by rfl, fun w hSw => by obtain ⟨p0, p1, p2, p3, p4, -⟩ := row5' (hSw.cells _ _ _ _ HX.out (by decide)); go_simp⟩) (by assumption) ?_
      try simp only [Act.put, List.setIfInBounds_toArray, List.set_cons_zero, List.set_cons_succ]
      refine wpAnyH_take (i := 6) (oi := ⟨some 20, .load 40 (.tmp 7), 40, "engine.go:231", #[], none⟩) (v := .agg #[.int .u32 (r.a : Int), .int .u8 (r.n : Int), .int .i64 (r.v : Int), .int .u16 (r.m : Int), .int .u16 (r.s : Int)]) rfl (by kernel_rfl) (by kernel_rfl) (by kernel_rfl) (fun _ _ _ h => h) (Or.inl ⟨by rfl, fun w hSw => by obtain ⟨p0, p1, p2, p3, p4, -⟩ := row5' (hSw.cells _ _ _ _ HX.out (by decide)); go_simp⟩) (by assumption) ?_
      try simp only [Act.put, List.setIfInBounds_toArray, List.set_cons_zero, List.set_cons_succ]
      refine wpAnyH_ready (rs := [7]) (by kernel_rfl) (by simp) ?_
      refine (AllReadyH.cons (o := ⟨some 21, .call ⟨.value (.func 88), #[.tmp 20], #[40]⟩, 48, "engine.go:231", #[⟨6, .data⟩], none⟩) rfl (fun K hK => ?_) AllReadyH.nil)
      go_simp
      with_reducible refine (markOf_any wd r).mono ?_
      rintro en wd2 ⟨rfl, B3⟩
      have HE2 := Lib.hid (HE.out.step B3)
      have HG2 := Lib.hid (HG.out.kept B3)
      have hS2 := Src.K.trans hHeld (Src.K.of B3 HE.out.los)
      refine hK.out _ _ (hS2) (fun hHeld2 => ?_)
      clear hK K hHeld
      have hHeld := hHeld2
      clear hHeld2
      try simp only [Act.put, List.setIfInBounds_toArray, List.set_cons_zero, List.set_cons_succ]
      clear HE HG B3 hS2
      generalize wd2 = wd at *
      have HE := HE2
      have HG := HG2
      clear HE2 HG2
      refine wpAnyH_ready (rs := [8]) (by kernel_rfl) (by simp) ?_
      refine (AllReadyH.cons (o := ⟨some 22, .call ⟨.value (.func 87), #[.tmp 17, .tmp 19, .tmp 21], #[89, 30, 48]⟩, 142, "engine.go:231", #[⟨3, .data⟩, ⟨5, .data⟩, ⟨7, .data⟩, ⟨7, .chain⟩], none⟩) rfl (fun K hK => ?_) AllReadyH.nil)
      have hct := Src.Lower_any wd m.qs ej.f ej.c HE.out.p.src HE.out.los r.a r.n HRO.out.1 HRO.out.2.1 HRO.out.2.2.1 r.s r.m HRO.out.2.2.2.1 (by have := HRO.out.2.2.2.2; omega)
      unfold Src.pv Src.mv at hct
      go_simp
      with_reducible refine hct.mono ?_
      rintro en wd2 ⟨rfl, hS3, K3⟩
      have HE2 := Lib.hid (HE.out.low hS3 K3)
      have HG2 := Lib.hid (gK HG.out K3 (by decide))
      refine hK.out _ _ (Src.K.trans hHeld K3) (fun hHeld2 => ?_)
      clear hK K hHeld
      have hHeld := hHeld2
      clear hHeld2
      try simp only [Act.put, List.setIfInBounds_toArray, List.set_cons_zero, List.set_cons_succ]
      clear HE HG hS3 K3 hct
      generalize wd2 = wd at *
      have HE := HE2
      have HG := HG2
      clear HE2 HG2
      refine wpAnyH_take (i := 9) (oi := ⟨some 23, .binOp .neq 142 (.tmp 22) (.const (.int .i64 0)) 142, 4, "engine.go:231", #[⟨8, .data⟩], none⟩) (v := .bool false) rfl (by kernel_rfl) (by kernel_rfl) (by kernel_rfl) (fun _ _ _ h => h) (Or.inl ⟨by rfl, fun w hSw => by go_simp⟩) (by assumption) ?_
      try simp only [Act.put, List.setIfInBounds_toArray, List.set_cons_zero, List.set_cons_succ]
      refine wpAnyH_done (by kernel_rfl) ?_ _
      try unfold NoPanic
      have HKd := Lib.hid (Src.K.trans HKW.out hHeld)
      have HX2 := Lib.hid (hHeld.cells _ _ _ _ HX.out (by decide))
      clear hHeld HX
      have BA := (Below.refl wd.heap.size wd).alloc (Nat.le_refl _) (.cells #[.int .u32 (r.a : Int), .int .u8 (r.n : Int), .int .i64 (r.v : Int), .int .u16 (r.m : Int), .int .u16 (r.s : Int)] 40)
      have hrow : (wd.alloc (.cells #[.int .u32 (r.a : Int), .int .u8 (r.n : Int), .int .i64 (r.v : Int), .int .u16 (r.m : Int), .int .u16 (r.s : Int)] 40)).heap[wd.heap.size]? = some (.cells (Ro.cl r).toArray 40 (0, 0)) := heap_alloc_new wd (.cells #[.int .u32 (r.a : Int), .int .u8 (r.n : Int), .int .i64 (r.v : Int), .int .u16 (r.m : Int), .int .u16 (r.s : Int)] 40)
      obtain ⟨v5, w5, hrun, O5, G5, -⟩ := roapp (wd.alloc (.cells #[.int .u32 (r.a : Int), .int .u8 (r.n : Int), .int .i64 (r.v : Int), .int .u16 (r.m : Int), .int .u16 (r.s : Int)] 40)) w.heap.size (.slice A3 n3 c3) rs [r] (some ⟨wd.heap.size, 0, none⟩) 1 1 (HG.out.kept BA) rfl (gsl_row (k := 5) hrow) (fun h => by cases h) HRL.out (by decide) (by have := HKd.out.below.size; have := BA.size; omega)
      obtain ⟨A5, c5, hv5, -⟩ := O5.form (fun _ => rfl)
      obtain ⟨n5, hn5⟩ : ∃ n5, n5 = (rs ++ [r]).length := ⟨_, rfl⟩
      rw [← hn5] at hv5
      have F5 : Fr (fun k => (Value.slice A3 n3 c3).ownBlock = some k) wd w5 := (Fr.of BA).trans (Fr.grown G5 (fun k e => e))
      have HE5 : Hid (EngAt lo w5 q (ej.low1 r) m) := Lib.hid (HE.out.fr F5 (fun k hk e9 => by
        have h1 := HXW.out k hk
        have h2 := (HG.out.lt e9).1
        omega) (fun b es cl hb e9 => by
        obtain ⟨-, cur, hg⟩ := HG.out.lt e9
        rw [hg] at hb; cases hb) (fun e9 => by
        have h2 := (HG.out.lt e9).1
        have := HLO.out
        have := HE.out.p.lo0
        omega))
      have HK5 : Hid (Src.K lo w w5) := Lib.hid ⟨HKd.out.below.trans (F5.below HE.out.los (fun k hk => by have h2 := (HG.out.lt hk).1; have := HLO.out; omega)), fun i x t fr hr ht => F5.row (HKd.out.cells i x t fr hr ht) (fun e9 => by
        have h2 := (HG.out.lt e9).1
        have := (Array.getElem?_eq_some_iff.1 hr).1
        omega)⟩
      have HO5 := Lib.hid (hv5 ▸ O5)
      obtain ⟨x0, x1, x2, x3, x4, -⟩ := row5' HX2.out
      have hxl := (Array.getElem?_eq_some_iff.1 HX2.out).1
      subst hv5
      have HRUN := Lib.hid hrun
      clear BA hrow O5 G5 F5 hn5 hrun HE
      go_wp2_with (at_builtin; refine Lib.wpList_append_run _ rfl _ _ _ _ rfl _ _ rfl rfl _ _ HRUN.out ?_)
      go_roundw
      case rel => exact ⟨A5, c5, n5, rfl, j + 1, by omega, by go_num, by rw [HNL.out]; exact HE5.out, HK5.out, by rw [HNX.out]; exact HO5.out⟩
      case measure => simp [intOf]; omega
    · obtain rfl : j = n := by omega
      have hE : ws.take j = ws := by rw [HH.out.1, List.take_length]
      rw [hE] at HR
      go_wp2
      go_ret
      exact ⟨_, rfl, HR.out.2.2, HR.out.1, HR.out.2.1⟩
end Go.Proofs.YtjbogjbopgcbhaaGreatDoor.Eg
namespace Go.Proofs.YtjbogjbopgcbhaaGreatDoor.Eg
open Pre Ser Rts
open Go.Proofs.YtjbogjbopgcbhaaGreatDoor.Src (row1 row2 Mk SrcAt)
open Go.Proofs.YtjbogjbopgcbhaaGreatDoor.Lk (LkAt)
open Go.ChangeShapes Go.WideShapes Go.ChangeAt Go.RowKit
set_option maxRecDepth 8000
set_option linter.unusedVariables false
set_option linter.unusedSimpArgs false
open Go.Shelf Go.Lib
open Go.Sort hiding Below
instance : Inhabited Ro := ⟨Ro.zero⟩
theorem compare_dr (p m q n : Nat) (w : World) :
    Calls Tryz.prog 50 #[.agg #[.int .u32 p, .int .u8 m], .agg #[.int .u32 q, .int .u8 n]] w fun e w' => e = .returned (.int .i64 (cmpP p m q n)) ∧ Below w.heap.size w w' ∧ w.drawn ≤ w'.drawn := by
  go_enter Tryz.func50, Tryz.ntmps50
  go_wp2
  go_region_held3 (fun x => x.cell? ⟨w.heap.size, 0, none⟩ = some (.int .u32 p) ∧ x.cell? ⟨w.heap.size, 1, none⟩ = some (.int .u8 m) ∧ x.cell? ⟨w.heap.size + 1, 0, none⟩ = some (.int .u32 q) ∧ x.cell? ⟨w.heap.size + 1, 1, none⟩ = some (.int .u8 n) ∧ (w.heap.size + 1 < x.heap.size ∧ Below w.heap.size w x ∧ w.drawn ≤ x.drawn))
    ((repeat' apply And.intro) <;> first | exact (((Below.refl _ _).alloc (Nat.le_refl _) _).alloc (by simp) _).drew | exact ((((Below.refl _ _).alloc (Nat.le_refl _) _).alloc (by simp) _).alloc (by simp; omega) _).drew | exact Nat.le_succ _ | assumption | exact Below.alloc (by assumption) (by simp; omega) _ | go_keep | (simp; omega))
    (first
    | (go_at_call 97; refine (cmp32_any p q _).mono ?_; rintro e w' ⟨rfl, rfl⟩)
    | (go_at_call 98; refine (cmp8_any m n _).mono ?_; rintro e w' ⟨rfl, rfl⟩)
    | (go_at_call 96; refine (or_any (cmpV p q) (cmpV m n) _ _ (by simp [go_sem]) (by simp [go_sem])).mono ?_; rintro e w' ⟨rfl, rfl⟩))
  all_goals (go_wp2; go_ret; exact ⟨rfl, ((((Below.refl _ _).alloc (Nat.le_refl _) _).alloc (by simp) _).alloc (by simp; omega) _).drew, Nat.le_succ _⟩)
theorem sortp_dr (W : World) (x y : Ro) : Calls Tryz.prog 49 #[.agg #[.int .u32 (x.a : Int), .int .u8 (x.n : Int), .int .i64 (x.v : Int), .int .u16 (x.m : Int), .int .u16 (x.s : Int)], .agg #[.int .u32 (y.a : Int), .int .u8 (y.n : Int), .int .i64 (y.v : Int), .int .u16 (y.m : Int), .int .u16 (y.s : Int)]] W fun en w' => en = .returned (.int .i64 (cmpP x.a x.n y.a y.n)) ∧ ∃ q os', w' = grow (W.drewN q) os' := by
  have HC := Lib.hid (fun w => compare_dr x.a x.n y.a y.n w)
  have B0 := ((Below.refl W.heap.size W).alloc (Nat.le_refl _) (.cells #[.int .u32 (x.a : Int), .int .u8 (x.n : Int), .int .i64 (x.v : Int), .int .u16 (x.m : Int), .int .u16 (x.s : Int)] 40)).alloc (by simp) (.cells #[.int .u32 (y.a : Int), .int .u8 (y.n : Int), .int .i64 (y.v : Int), .int .u16 (y.m : Int), .int .u16 (y.s : Int)] 40)
  go_enter Tryz.func49, Tryz.ntmps49
  go_wp2_with (go_at_call 50; (with_reducible refine (HC.out _).mono ?_); rintro en w' ⟨rfl, B, hd⟩)
  go_ret
  have hd : W.drawn ≤ w'.drawn := hd
  obtain ⟨p, hp⟩ := regrown_of_below (B0.trans (B.mono B0.size))
  have h2 : w'.drawn = p.d := by rw [hp]; rfl
  refine ⟨rfl, p.d - W.drawn, p.os, ?_⟩
  rw [hp]
  unfold redrawn World.drewN
  rw [show W.drawn + (p.d - W.drawn) = p.d by omega]
def cmR (x y : Ro) : Int := cmpP x.a x.n y.a y.n
theorem cmR_lt (x y : Ro) : ltOf cmR x y = true ↔ x.a < y.a ∨ x.a = y.a ∧ x.n < y.n := by
  unfold ltOf cmR cmpP orV cmpV
  rw [decide_eq_true_iff]
  constructor <;> intro h <;> (repeat' split at h) <;> (try (repeat' split)) <;> omega
theorem cmR_swo : Sort.SWO (ltOf cmR) where
  irrefl x := by
    rw [Bool.eq_false_iff]; intro h; have := (cmR_lt x x).1 h; omega
  trans x y z h1 h2 := by
    have h1 := (cmR_lt x y).1 h1
    have h2 := (cmR_lt y z).1 h2
    exact (cmR_lt x z).2 (by omega)
  ntrans x y z h1 h2 := by
    rw [Bool.eq_false_iff] at *
    intro h
    have h := (cmR_lt x z).1 h
    have h1' : ¬ _ := fun e => h1 ((cmR_lt x y).2 e)
    have h2' : ¬ _ := fun e => h2 ((cmR_lt y z).2 e)
    omega
theorem ro_holds {w : World} {g : Nat} {ws : List Ro} (h : GSl 5 Ro.cl w (some ⟨g, 0, none⟩) ws) (hf : ∀ i, w.frozen? ⟨g, i, none⟩ = false) : HoldsK Ro.cl 5 w g 0 ws.toArray := by
  unfold HoldsK Holds
  intro j hj
  rw [size_flatK] at hj
  have hj : j < ws.length * 5 := by simpa using hj
  refine ⟨?_, hf _⟩
  have h1 : j / 5 < ws.length := (Nat.div_lt_iff_lt_mul (by decide)).2 hj
  have h2 : j % 5 < 5 := Nat.mod_lt _ (by decide)
  have h3 : j / 5 * 5 + j % 5 = j := by omega
  rw [get_flatK _ _ _ _ (by simpa using hj)]
  obtain ⟨b, o, e, -, hc⟩ := h (j / 5) h1
  injection e with e; injection e with e1 e2 _
  subst e1 e2
  have := hc (j % 5) h2
  rw [Nat.zero_add, h3] at this
  rw [Nat.zero_add, this]
  have hd : (ws.toArray[j / 5]!) = ws[j / 5] := by simp [h1]
  rw [hd]
  have h5 : j % 5 < (Ro.cl ws[j / 5]).length := h2
  rw [List.getElem?_eq_getElem h5]
  simp [h5]
theorem ro_take (cur : Array Value) (ts : List Ro) (h : ts.length * 5 ≤ cur.size) : (putCells id 0 (flatK Ro.cl 5 ts.toArray) cur).toList.take (ts.length * 5) = ts.flatMap Ro.cl := by
  apply List.ext_getElem?
  intro j
  by_cases hj : j < ts.length * 5
  · have h1 : j / 5 < ts.length := (Nat.div_lt_iff_lt_mul (by decide)).2 hj
    have h2 : j % 5 < 5 := Nat.mod_lt _ (by decide)
    have h3 : j / 5 * 5 + j % 5 = j := by omega
    have e1 := gflat_at (cl := Ro.cl) (k := 5) (fun _ => rfl) ts (j / 5) (j % 5) h1 h2
    rw [h3] at e1
    rw [e1, List.getElem?_take_of_lt hj, Array.getElem?_toList]
    have h5 : j % 5 < (Ro.cl ts[j / 5]).length := h2
    have hs : (flatK Ro.cl 5 ts.toArray).size = ts.length * 5 := by rw [size_flatK]; simp
    have e2 : (putCells id 0 (flatK Ro.cl 5 ts.toArray) cur)[j]? = some ((flatK Ro.cl 5 ts.toArray)[j]!) := by
      unfold putCells
      simp [hj, show j < cur.size by omega]
    rw [e2, get_flatK _ _ _ _ (by simpa using hj), show (ts.toArray[j / 5]!) = ts[j / 5] by simp [h1], List.getElem?_eq_getElem h5]
    simp [h5]
  · rw [List.getElem?_eq_none (by rw [List.length_take]; omega), List.getElem?_eq_none (by rw [gflat_len (cl := Ro.cl) (k := 5) (fun _ => rfl)]; omega)]
theorem sort_any (w : World) (B : Nat) (v : Value) (ws : List Ro) (h : GOwn 40 5 Ro.cl w B v ws) (hl : ws.length ≤ 1000) :
    Calls Tryz.prog 48 #[v, .func (.func 49) #[] #[]] w fun en w' => ∃ ts : List Ro, en = .returned (.tuple #[]) ∧ ts.Perm ws ∧ (∀ i j (hi : i < j) (hj : j < ts.length), ltOf cmR ts[j] (ts[i]'(Nat.lt_trans hi hj)) = false) ∧ GOwn 40 5 Ro.cl w' B v ts ∧ Fr (fun k => v.ownBlock = some k) w w' := by
  rcases h.2 with ⟨hv, h0⟩ | ⟨g, cap, cur, hv, hB, hg, h1, h2, h3, h4⟩
  · have e : ws = [] := List.eq_nil_of_length_eq_zero h0
    subst e hv
    have hc := AnyF.slices_SortFunc_none Tryz.sortRo none 0 (.func (.func 49) #[] #[]) w
    change Calls Tryz.prog 48 _ _ _ at hc
    refine hc.mono ?_
    rintro en w' ⟨rfl, rfl⟩
    exact ⟨[], rfl, List.Perm.refl _, fun i j hi hj => by simp at hj, h, Fr.refl _ _⟩
  · subst hv
    obtain ⟨A, c, e1, -, hs, -⟩ := gsl_of h (fun _ => rfl)
    injection e1 with e1 _ _
    subst e1
    have hfz : ∀ i, w.frozen? ⟨g, i, none⟩ = false := fun i => frozen_of_row w g i _ 40 hg
    have hgl := (Array.getElem?_eq_some_iff.1 hg).1
    have hsz : ws.toArray.size = ws.length := by simp
    have hc := AnyQ.slices_SortFunc Tryz.sortRo 5 Tryz.isAgg40 Tryz.sizeOf40 Ro.cl (fun _ => rfl) (fun x v hv => ro_one x v hv) cmR cmR_swo 49 #[] g 0 cap ws.toArray w (enters_of Tryz.func49 (by kernel_rfl) rfl) (fun m os dk hs x y => sortp_dr _ x y) (ro_holds hs hfz) hgl (by rw [hsz]; omega)
    change Calls Tryz.prog 48 _ _ _ at hc
    rw [hsz] at hc
    refine hc.mono ?_
    rintro en w' ⟨rfl, d', n, os, hp, hso, rfl⟩
    have hd : d'.size = ws.length := by have := hp.1; rw [hsz] at this; exact this
    have hp3 := hp.2.2
    have hpe : d'.toList.Perm ws := by
      have e1 : (d'.extract 0 ws.length).toList = d'.toList := by rw [← hd]; simp
      have e2 : (ws.toArray.extract 0 ws.length).toList = ws := by simp
      rw [e1, e2] at hp3
      exact hp3
    have hll : d'.toList.length = ws.length := by rw [Array.length_toList, hd]
    have hG : w.grownBy (sortWorldK Ro.cl 5 w g 0 n d' os) (some g) := by
      unfold sortWorldK putRowK
      refine ⟨rfl, rfl, rfl, by simp, fun k hk hne => ?_⟩
      rw [heap_grow_old _ _ (by simpa using hk)]
      have : g ≠ k := fun e => hne (by rw [e])
      simp [putRow, mapBlock, Sort.ahead, Array.getElem?_modify, this]
    have hrow : (sortWorldK Ro.cl 5 w g 0 n d' os).heap[g]? = some (.cells (putCells id 0 (flatK Ro.cl 5 d') cur) 40 (0, 0)) := by
      unfold sortWorldK putRowK
      rw [heap_grow_old _ _ (by simpa using hgl)]
      simp [putRow, mapBlock, Sort.ahead, Array.getElem?_modify, hg, onCells]
    refine ⟨d'.toList, rfl, hpe, fun i j hi hj => ?_, ⟨?_, Or.inr ⟨g, cap, _, by rw [hll], hB, hrow, by rw [hll]; exact h1, h2, by simp [putCells, h3], ?_⟩⟩, Fr.grown hG (fun k e => by rw [← e]; rfl)⟩
    · have hj' : j < d'.size := by simpa using hj
      have := hso i j (Nat.zero_le _) hi (by rw [← hd]; exact hj')
      simpa [hj', Nat.lt_trans hi hj'] using this
    · rw [gflat_len (cl := Ro.cl) (k := 5) (fun _ => rfl)]
    · have := ro_take cur d'.toList (by rw [hll, h3]; exact Nat.mul_le_mul_right 5 h1)
      simpa using this
end Go.Proofs.YtjbogjbopgcbhaaGreatDoor.Eg
namespace Go.Proofs.YtjbogjbopgcbhaaGreatDoor.Eg
open Pre Ser Rts
open Go.Proofs.YtjbogjbopgcbhaaGreatDoor.Src (row1 row2 Mk SrcAt)
open Go.Proofs.YtjbogjbopgcbhaaGreatDoor.Lk (LkAt)
open Go.ChangeShapes Go.WideShapes Go.ChangeAt Go.RowKit
set_option maxRecDepth 8000
set_option linter.unusedVariables false
set_option linter.unusedSimpArgs false
set_option maxHeartbeats 8000000 in
theorem equal_any (w : World) (A1 A2 : Option Addr) (c1 c2 : Nat) (l1 l2 : List Ro) (hs1 : GSl 5 Ro.cl w A1 l1) (hs2 : GSl 5 Ro.cl w A2 l2) (hl1 : l1.length ≤ 1000) (hl2 : l2.length ≤ 1000) :
    Calls Tryz.prog 99 #[.slice A1 l1.length c1, .slice A2 l2.length c2] w fun en w' => en = .returned (.bool (decide (l1 = l2))) ∧ Below w.heap.size w w' := by
  by_cases hl : l1.length = l2.length
  · obtain ⟨n, hn⟩ : ∃ n, n = l1.length := ⟨_, rfl⟩
    rw [← hl, ← hn]
    have hn9 : n ≤ 1000 := by omega
    have HH := Lib.hid (And.intro hn (And.intro hl (And.intro hs1 hs2)))
    clear hn hl hs1 hs2 hl1 hl2
    go_enter Tryz.func99, Tryz.ntmps99
    go_wp2
    go_loopw [5, 13] (fun _ i wr => ∃ j : Nat, j ≤ n ∧ i = .int .i64 j ∧ Hid (Below w.heap.size w wr ∧ l1.take j = l2.take j)) (fun _ i _ => n - (intOf i).toNat)
    case atStart => exact ⟨0, Nat.zero_le _, rfl, Below.refl _ _, rfl⟩
    case round =>
      obtain ⟨j, hj, rfl, HR⟩ := hrel
      by_cases hlt : j < n
      · have hj1 : j < l1.length := by rw [← HH.out.1]; exact hlt
        have hj2 : j < l2.length := by rw [← HH.out.2.1]; exact hj1
        obtain ⟨b1, o1, rfl, hb1, hc1⟩ := HH.out.2.2.1 j hj1
        obtain ⟨b2, o2, rfl, hb2, hc2⟩ := HH.out.2.2.2 j hj2
        have HK1 := Lib.hid ((RoAt.of hc1).keep (HR.out.1.block b1 hb1))
        have HK2 := Lib.hid ((RoAt.of hc2).keep (HR.out.1.block b2 hb2))
        have HBL := Lib.hid (And.intro (Nat.lt_of_lt_of_le hb1 HR.out.1.size) (Nat.lt_of_lt_of_le hb2 HR.out.1.size))
        have HNX := Lib.hid (fun (h9 : l1[j] = l2[j]) => show l1.take (j + 1) = l2.take (j + 1) by
          rw [List.take_succ_eq_append_getElem hj1, List.take_succ_eq_append_getElem hj2, HR.out.2, h9])
        have HNO := Lib.hid (fun (h9 : l1[j] ≠ l2[j]) => show decide (l1 = l2) = false from decide_eq_false fun e9 => h9 (by simp only [e9]))
        clear hc1 hc2 hb1 hb2
        generalize l1[j] = x at *
        generalize l2[j] = y at *
        obtain ⟨a, nn, v, m, s⟩ := x
        obtain ⟨a', nn', v', m', s'⟩ := y
        go_upto_region 6 with (fail)
        by_cases ha : a = a'
        · subst ha
          by_cases hnn : nn = nn'
          · subst hnn
            by_cases hv : v = v'
            · subst hv
              by_cases hm : m = m'
              · subst hm
                by_cases hs : s = s'
                · subst hs
                  refine wp_region_noPanic ?_
                  refine wp_region_held_drew (S := fun y9 : World => Below wr.heap.size wr y9) (by kernel_rfl) ((Below.refl _ _).drew) (fun hHeld => ?_)
                  generalize wr.drew = wd at *
                  refine wpAnyH_take (i := 0) (oi := ⟨some 16, .move (.tmp 0), 37, "slices.go:25", #[], none⟩) (v := .slice (some ⟨b1, o1, none⟩) n c1) rfl (by kernel_rfl) (by kernel_rfl) (by kernel_rfl) (fun _ _ _ h => h) (Or.inl ⟨by rfl, fun w hSw => by go_simp⟩) (by assumption) ?_
                  try simp only [Act.put, List.setIfInBounds_toArray, List.set_cons_zero, List.set_cons_succ]
                  refine wpAnyH_take (i := 1) (oi := ⟨some 17, .move (.tmp 5), 3, "slices.go:25", #[], none⟩) (v := .int .i64 (j : Int)) rfl (by kernel_rfl) (by kernel_rfl) (by kernel_rfl) (fun _ _ _ h => h) (Or.inl ⟨by rfl, fun w hSw => by go_simp⟩) (by assumption) ?_
                  try simp only [Act.put, List.setIfInBounds_toArray, List.set_cons_zero, List.set_cons_succ]
                  refine wpAnyH_take (i := 2) (oi := ⟨some 18, .indexAddr 37 (.tmp 16) (.tmp 17), 0, "slices.go:25", #[⟨0, .data⟩, ⟨1, .data⟩], none⟩) (v := .pointer (some ⟨b1, o1 + j * 5, none⟩)) rfl (by kernel_rfl) (by kernel_rfl) (by kernel_rfl) (fun _ _ _ h => h) (Or.inl ⟨by rfl, fun w hSw => by go_simp⟩) (by assumption) ?_
                  try simp only [Act.put, List.setIfInBounds_toArray, List.set_cons_zero, List.set_cons_succ]
                  refine wpAnyH_take (i := 3) (oi := ⟨some 19, .load 40 (.tmp 18), 40, "slices.go:25", #[⟨2, .data⟩], none⟩) (v := .agg #[.int .u32 (a : Int), .int .u8 (nn : Int), .int .i64 (v : Int), .int .u16 (m : Int), .int .u16 (s : Int)]) rfl (by kernel_rfl) (by kernel_rfl) (by kernel_rfl) (fun _ _ _ h => h) (Or.inl ⟨by rfl, fun w hSw => by obtain ⟨k0, k1, k2, k3, k4⟩ := HK1.out.keep (hSw.block b1 HBL.out.1); go_simp⟩) (by assumption) ?_
                  try simp only [Act.put, List.setIfInBounds_toArray, List.set_cons_zero, List.set_cons_succ]
                  refine wpAnyH_take (i := 4) (oi := ⟨some 20, .move (.tmp 1), 37, "slices.go:25", #[], none⟩) (v := .slice (some ⟨b2, o2, none⟩) n c2) rfl (by kernel_rfl) (by kernel_rfl) (by kernel_rfl) (fun _ _ _ h => h) (Or.inl ⟨by rfl, fun w hSw => by go_simp⟩) (by assumption) ?_
                  try simp only [Act.put, List.setIfInBounds_toArray, List.set_cons_zero, List.set_cons_succ]
                  refine wpAnyH_take (i := 5) (oi := ⟨some 21, .move (.tmp 5), 3, "slices.go:25", #[], none⟩) (v := .int .i64 (j : Int)) rfl (by kernel_rfl) (by kernel_rfl) (by kernel_rfl) (fun _ _ _ h => h) (Or.inl ⟨by rfl, fun w hSw => by go_simp⟩) (by assumption) ?_
                  try simp only [Act.put, List.setIfInBounds_toArray, List.set_cons_zero, List.set_cons_succ]
                  refine wpAnyH_take (i := 6) (oi := ⟨some 22, .indexAddr 37 (.tmp 20) (.tmp 21), 0, "slices.go:25", #[⟨4, .data⟩, ⟨5, .data⟩], none⟩) (v := .pointer (some ⟨b2, o2 + j * 5, none⟩)) rfl (by kernel_rfl) (by kernel_rfl) (by kernel_rfl) (fun _ _ _ h => h) (Or.inl ⟨by rfl, fun w hSw => by go_simp⟩) (by assumption) ?_
                  try simp only [Act.put, List.setIfInBounds_toArray, List.set_cons_zero, List.set_cons_succ]
                  refine wpAnyH_take (i := 7) (oi := ⟨some 23, .load 40 (.tmp 22), 40, "slices.go:25", #[⟨6, .data⟩], none⟩) (v := .agg #[.int .u32 (a : Int), .int .u8 (nn : Int), .int .i64 (v : Int), .int .u16 (m : Int), .int .u16 (s : Int)]) rfl (by kernel_rfl) (by kernel_rfl) (by kernel_rfl) (fun _ _ _ h => h) (Or.inl ⟨by rfl, fun w hSw => by obtain ⟨k0, k1, k2, k3, k4⟩ := HK2.out.keep (hSw.block b2 HBL.out.2); go_simp⟩) (by assumption) ?_
                  try simp only [Act.put, List.setIfInBounds_toArray, List.set_cons_zero, List.set_cons_succ]
                  refine wpAnyH_take (i := 8) (oi := ⟨some 24, .binOp .neq 40 (.tmp 19) (.tmp 23) 40, 4, "slices.go:25", #[⟨3, .data⟩, ⟨7, .data⟩], none⟩) (v := .bool false) rfl (by kernel_rfl) (by kernel_rfl) (by kernel_rfl) (fun _ _ _ h => h) (Or.inl ⟨by rfl, fun w hSw => by go_simp⟩) (by assumption) ?_
                  try simp only [Act.put, List.setIfInBounds_toArray, List.set_cons_zero, List.set_cons_succ]
                  refine wpAnyH_done (by kernel_rfl) ?_ _
                  try unfold NoPanic
                  have HB9 := Lib.hid (HR.out.1.trans (hHeld.mono HR.out.1.size))
                  clear hHeld
                  have HV := Lib.hid (HNX.out rfl)
                  go_wp2
                  go_roundw
                  case rel => exact ⟨j + 1, by omega, by go_num, HB9.out, HV.out⟩
                  case measure => simp [intOf]; omega
                · have hne : ¬ ((s : Int) = (s' : Int)) := by omega
                  refine wp_region_noPanic ?_
                  refine wp_region_held_drew (S := fun y9 : World => Below wr.heap.size wr y9) (by kernel_rfl) ((Below.refl _ _).drew) (fun hHeld => ?_)
                  generalize wr.drew = wd at *
                  refine wpAnyH_take (i := 0) (oi := ⟨some 16, .move (.tmp 0), 37, "slices.go:25", #[], none⟩) (v := .slice (some ⟨b1, o1, none⟩) n c1) rfl (by kernel_rfl) (by kernel_rfl) (by kernel_rfl) (fun _ _ _ h => h) (Or.inl ⟨by rfl, fun w hSw => by go_simp⟩) (by assumption) ?_
                  try simp only [Act.put, List.setIfInBounds_toArray, List.set_cons_zero, List.set_cons_succ]
                  refine wpAnyH_take (i := 1) (oi := ⟨some 17, .move (.tmp 5), 3, "slices.go:25", #[], none⟩) (v := .int .i64 (j : Int)) rfl (by kernel_rfl) (by kernel_rfl) (by kernel_rfl) (fun _ _ _ h => h) (Or.inl ⟨by rfl, fun w hSw => by go_simp⟩) (by assumption) ?_
                  try simp only [Act.put, List.setIfInBounds_toArray, List.set_cons_zero, List.set_cons_succ]
                  refine wpAnyH_take (i := 2) (oi := ⟨some 18, .indexAddr 37 (.tmp 16) (.tmp 17), 0, "slices.go:25", #[⟨0, .data⟩, ⟨1, .data⟩], none⟩) (v := .pointer (some ⟨b1, o1 + j * 5, none⟩)) rfl (by kernel_rfl) (by kernel_rfl) (by kernel_rfl) (fun _ _ _ h => h) (Or.inl ⟨by rfl, fun w hSw => by go_simp⟩) (by assumption) ?_
                  try simp only [Act.put, List.setIfInBounds_toArray, List.set_cons_zero, List.set_cons_succ]
                  refine wpAnyH_take (i := 3) (oi := ⟨some 19, .load 40 (.tmp 18), 40, "slices.go:25", #[⟨2, .data⟩], none⟩) (v := .agg #[.int .u32 (a : Int), .int .u8 (nn : Int), .int .i64 (v : Int), .int .u16 (m : Int), .int .u16 (s : Int)]) rfl (by kernel_rfl) (by kernel_rfl) (by kernel_rfl) (fun _ _ _ h => h) (Or.inl ⟨by rfl, fun w hSw => by obtain ⟨k0, k1, k2, k3, k4⟩ := HK1.out.keep (hSw.block b1 HBL.out.1); go_simp⟩) (by assumption) ?_
                  try simp only [Act.put, List.setIfInBounds_toArray, List.set_cons_zero, List.set_cons_succ]
                  refine wpAnyH_take (i := 4) (oi := ⟨some 20, .move (.tmp 1), 37, "slices.go:25", #[], none⟩) (v := .slice (some ⟨b2, o2, none⟩) n c2) rfl (by kernel_rfl) (by kernel_rfl) (by kernel_rfl) (fun _ _ _ h => h) (Or.inl ⟨by rfl, fun w hSw => by go_simp⟩) (by assumption) ?_
                  try simp only [Act.put, List.setIfInBounds_toArray, List.set_cons_zero, List.set_cons_succ]
                  refine wpAnyH_take (i := 5) (oi := ⟨some 21, .move (.tmp 5), 3, "slices.go:25", #[], none⟩) (v := .int .i64 (j : Int)) rfl (by kernel_rfl) (by kernel_rfl) (by kernel_rfl) (fun _ _ _ h => h) (Or.inl ⟨by rfl, fun w hSw => by go_simp⟩) (by assumption) ?_
                  try simp only [Act.put, List.setIfInBounds_toArray, List.set_cons_zero, List.set_cons_succ]
                  refine wpAnyH_take (i := 6) (oi := ⟨some 22, .indexAddr 37 (.tmp 20) (.tmp 21), 0, "slices.go:25", #[⟨4, .data⟩, ⟨5, .data⟩], none⟩) (v := .pointer (some ⟨b2, o2 + j * 5, none⟩)) rfl (by kernel_rfl) (by kernel_rfl) (by kernel_rfl) (fun _ _ _ h => h) (Or.inl ⟨by rfl, fun w hSw => by go_simp⟩) (by assumption) ?_
                  try simp only [Act.put, List.setIfInBounds_toArray, List.set_cons_zero, List.set_cons_succ]
                  refine wpAnyH_take (i := 7) (oi := ⟨some 23, .load 40 (.tmp 22), 40, "slices.go:25", #[⟨6, .data⟩], none⟩) (v := .agg #[.int .u32 (a : Int), .int .u8 (nn : Int), .int .i64 (v : Int), .int .u16 (m : Int), .int .u16 (s' : Int)]) rfl (by kernel_rfl) (by kernel_rfl) (by kernel_rfl) (fun _ _ _ h => h) (Or.inl ⟨by rfl, fun w hSw => by obtain ⟨k0, k1, k2, k3, k4⟩ := HK2.out.keep (hSw.block b2 HBL.out.2); go_simp⟩) (by assumption) ?_
                  try simp only [Act.put, List.setIfInBounds_toArray, List.set_cons_zero, List.set_cons_succ]
                  refine wpAnyH_take (i := 8) (oi := ⟨some 24, .binOp .neq 40 (.tmp 19) (.tmp 23) 40, 4, "slices.go:25", #[⟨3, .data⟩, ⟨7, .data⟩], none⟩) (v := .bool true) rfl (by kernel_rfl) (by kernel_rfl) (by kernel_rfl) (fun _ _ _ h => h) (Or.inl ⟨by rfl, fun w hSw => by go_simp⟩) (by assumption) ?_
                  try simp only [Act.put, List.setIfInBounds_toArray, List.set_cons_zero, List.set_cons_succ]
                  refine wpAnyH_done (by kernel_rfl) ?_ _
                  try unfold NoPanic
                  have HB9 := Lib.hid (HR.out.1.trans (hHeld.mono HR.out.1.size))
                  clear hHeld
                  have HV := Lib.hid (HNO.out (by intro e9; injection e9 with e0 e1 e2 e3 e4; exact hs e4))
                  go_wp2
                  go_ret
                  exact ⟨by rw [HV.out]; rfl, HB9.out⟩
              · have hne : ¬ ((m : Int) = (m' : Int)) := by omega
                refine wp_region_noPanic ?_
                refine wp_region_held_drew (S := fun y9 : World => Below wr.heap.size wr y9) (by kernel_rfl) ((Below.refl _ _).drew) (fun hHeld => ?_)
                generalize wr.drew = wd at *
                refine wpAnyH_take (i := 0) (oi := ⟨some 16, .move (.tmp 0), 37, "slices.go:25", #[], none⟩) (v := .slice (some ⟨b1, o1, none⟩) n c1) rfl (by kernel_rfl) (by kernel_rfl) (by kernel_rfl) (fun _ _ _ h => h) (Or.inl ⟨by rfl, fun w hSw => by go_simp⟩) (by assumption) ?_
                try simp only [Act.put, List.setIfInBounds_toArray, List.set_cons_zero, List.set_cons_succ]
                refine wpAnyH_take (i := 1) (oi := ⟨some 17, .move (.tmp 5), 3, "slices.go:25", #[], none⟩) (v := .int .i64 (j : Int)) rfl (by kernel_rfl) (by kernel_rfl) (by kernel_rfl) (fun _ _ _ h => h) (Or.inl ⟨by rfl, fun w hSw => by go_simp⟩) (by assumption) ?_
                try simp only [Act.put, List.setIfInBounds_toArray, List.set_cons_zero, List.set_cons_succ]
                refine wpAnyH_take (i := 2) (oi := ⟨some 18, .indexAddr 37 (.tmp 16) (.tmp 17), 0, "slices.go:25", #[⟨0, .data⟩, ⟨1, .data⟩], none⟩) (v := .pointer (some ⟨b1, o1 + j * 5, none⟩)) rfl (by kernel_rfl) (by kernel_rfl) (by kernel_rfl) (fun _ _ _ h => h) (Or.inl ⟨by rfl, fun w hSw => by go_simp⟩) (by assumption) ?_
                try simp only [Act.put, List.setIfInBounds_toArray, List.set_cons_zero, List.set_cons_succ]
                refine wpAnyH_take (i := 3) (oi := ⟨some 19, .load 40 (.tmp 18), 40, "slices.go:25", #[⟨2, .data⟩], none⟩) (v := .agg #[.int .u32 (a : Int), .int .u8 (nn : Int), .int .i64 (v : Int), .int .u16 (m : Int), .int .u16 (s : Int)]) rfl (by kernel_rfl) (by kernel_rfl) (by kernel_rfl) (fun _ _ _ h => h) (Or.inl ⟨by rfl, fun w hSw => by obtain ⟨k0, k1, k2, k3, k4⟩ := HK1.out.keep (hSw.block b1 HBL.out.1); go_simp⟩) (by assumption) ?_
                try simp only [Act.put, List.setIfInBounds_toArray, List.set_cons_zero, List.set_cons_succ]
                refine wpAnyH_take (i := 4) (oi := ⟨some 20, .move (.tmp 1), 37, "slices.go:25", #[], none⟩) (v := .slice (some ⟨b2, o2, none⟩) n c2) rfl (by kernel_rfl) (by kernel_rfl) (by kernel_rfl) (fun _ _ _ h => h) (Or.inl ⟨by rfl, fun w hSw => by go_simp⟩) (by assumption) ?_
                try simp only [Act.put, List.setIfInBounds_toArray, List.set_cons_zero, List.set_cons_succ]
                refine wpAnyH_take (i := 5) (oi := ⟨some 21, .move (.tmp 5), 3, "slices.go:25", #[], none⟩) (v := .int .i64 (j : Int)) rfl (by kernel_rfl) (by kernel_rfl) (by kernel_rfl) (fun _ _ _ h => h) (Or.inl ⟨by rfl, fun w hSw => by go_simp⟩) (by assumption) ?_
                try simp only [Act.put, List.setIfInBounds_toArray, List.set_cons_zero, List.set_cons_succ]
                refine wpAnyH_take (i := 6) (oi := ⟨some 22, .indexAddr 37 (.tmp 20) (.tmp 21), 0, "slices.go:25", #[⟨4, .data⟩, ⟨5, .data⟩], none⟩) (v := .pointer (some ⟨b2, o2 + j * 5, none⟩)) rfl (by kernel_rfl) (by kernel_rfl) (by kernel_rfl) (fun _ _ _ h => h) (Or.inl ⟨by rfl, fun w hSw => by go_simp⟩) (by assumption) ?_
                try simp only [Act.put, List.setIfInBounds_toArray, List.set_cons_zero, List.set_cons_succ]
                refine wpAnyH_take (i := 7) (oi := ⟨some 23, .load 40 (.tmp 22), 40, "slices.go:25", #[⟨6, .data⟩], none⟩) (v := .agg #[.int .u32 (a : Int), .int .u8 (nn : Int), .int .i64 (v : Int), .int .u16 (m' : Int), .int .u16 (s' : Int)]) rfl (by kernel_rfl) (by kernel_rfl) (by kernel_rfl) (fun _ _ _ h => h) (Or.inl ⟨by rfl, fun w hSw => by obtain ⟨k0, k1, k2, k3, k4⟩ := HK2.out.keep (hSw.block b2 HBL.out.2); go_simp⟩) (by assumption) ?_
                try simp only [Act.put, List.setIfInBounds_toArray, List.set_cons_zero, List.set_cons_succ]
                refine wpAnyH_take (i := 8) (oi := ⟨some 24, .binOp .neq 40 (.tmp 19) (.tmp 23) 40, 4, "slices.go:25", #[⟨3, .data⟩, ⟨7, .data⟩], none⟩) (v := .bool true) rfl (by kernel_rfl) (by kernel_rfl) (by kernel_rfl) (fun _ _ _ h => h) (Or.inl ⟨by rfl, fun w hSw => by go_simp⟩) (by assumption) ?_
                try simp only [Act.put, List.setIfInBounds_toArray, List.set_cons_zero, List.set_cons_succ]
                refine wpAnyH_done (by kernel_rfl) ?_ _
                try unfold NoPanic
                have HB9 := Lib.hid (HR.out.1.trans (hHeld.mono HR.out.1.size))
                clear hHeld
                have HV := Lib.hid (HNO.out (by intro e9; injection e9 with e0 e1 e2 e3 e4; exact hm e3))
                go_wp2
                go_ret
                exact ⟨by rw [HV.out]; rfl, HB9.out⟩
            · have hne : ¬ ((v : Int) = (v' : Int)) := by omega
              refine wp_region_noPanic ?_
              refine wp_region_held_drew (S := fun y9 : World => Below wr.heap.size wr y9) (by kernel_rfl) ((Below.refl _ _).drew) (fun hHeld => ?_)
              generalize wr.drew = wd at *
              refine wpAnyH_take (i := 0) (oi := ⟨some 16, .move (.tmp 0), 37, "slices.go:25", #[], none⟩) (v := .slice (some ⟨b1, o1, none⟩) n c1) rfl (by kernel_rfl) (by kernel_rfl) (by kernel_rfl) (fun _ _ _ h => h) (Or.inl ⟨by rfl, fun w hSw => by go_simp⟩) (by assumption) ?_
              try simp only [Act.put, List.setIfInBounds_toArray, List.set_cons_zero, List.set_cons_succ]
              refine wpAnyH_take (i := 1) (oi := ⟨some 17, .move (.tmp 5), 3, "slices.go:25", #[], none⟩) (v := .int .i64 (j : Int)) rfl (by kernel_rfl) (by kernel_rfl) (by kernel_rfl) (fun _ _ _ h => h) (Or.inl ⟨by rfl, fun w hSw => by go_simp⟩) (by assumption) ?_
              try simp only [Act.put, List.setIfInBounds_toArray, List.set_cons_zero, List.set_cons_succ]
              refine wpAnyH_take (i := 2) (oi := ⟨some 18, .indexAddr 37 (.tmp 16) (.tmp 17), 0, "slices.go:25", #[⟨0, .data⟩, ⟨1, .data⟩], none⟩) (v := .pointer (some ⟨b1, o1 + j * 5, none⟩)) rfl (by kernel_rfl) (by kernel_rfl) (by kernel_rfl) (fun _ _ _ h => h) (Or.inl ⟨by rfl, fun w hSw => by go_simp⟩) (by assumption) ?_
              try simp only [Act.put, List.setIfInBounds_toArray, List.set_cons_zero, List.set_cons_succ]
              refine wpAnyH_take (i := 3) (oi := ⟨some 19, .load 40 (.tmp 18), 40, "slices.go:25", #[⟨2, .data⟩], none⟩) (v := .agg #[.int .u32 (a : Int), .int .u8 (nn : Int), .int .i64 (v : Int), .int .u16 (m : Int), .int .u16 (s : Int)]) rfl (by kernel_rfl) (by kernel_rfl) (by kernel_rfl) (fun _ _ _ h => h) (Or.inl ⟨by rfl, fun w hSw => by obtain ⟨k0, k1, k2, k3, k4⟩ := HK1.out.keep (hSw.block b1 HBL.out.1); go_simp⟩) (by assumption) ?_
              try simp only [Act.put, List.setIfInBounds_toArray, List.set_cons_zero, List.set_cons_succ]
              refine wpAnyH_take (i := 4) (oi := ⟨some 20, .move (.tmp 1), 37, "slices.go:25", #[], none⟩) (v := .slice (some ⟨b2, o2, none⟩) n c2) rfl (by kernel_rfl) (by kernel_rfl) (by kernel_rfl) (fun _ _ _ h => h) (Or.inl ⟨by rfl, fun w hSw => by go_simp⟩) (by assumption) ?_
              try simp only [Act.put, List.setIfInBounds_toArray, List.set_cons_zero, List.set_cons_succ]
              refine wpAnyH_take (i := 5) (oi := ⟨some 21, .move (.tmp 5), 3, "slices.go:25", #[], none⟩) (v := .int .i64 (j : Int)) rfl (by kernel_rfl) (by kernel_rfl) (by kernel_rfl) (fun _ _ _ h => h) (Or.inl ⟨by rfl, fun w hSw => by go_simp⟩) (by assumption) ?_
              try simp only [Act.put, List.setIfInBounds_toArray, List.set_cons_zero, List.set_cons_succ]
              refine wpAnyH_take (i := 6) (oi := ⟨some 22, .indexAddr 37 (.tmp 20) (.tmp 21), 0, "slices.go:25", #[⟨4, .data⟩, ⟨5, .data⟩], none⟩) (v := .pointer (some ⟨b2, o2 + j * 5, none⟩)) rfl (by kernel_rfl) (by kernel_rfl) (by kernel_rfl) (fun _ _ _ h => h) (Or.inl ⟨by rfl, fun w hSw => by go_simp⟩) (by assumption) ?_
              try simp only [Act.put, List.setIfInBounds_toArray, List.set_cons_zero, List.set_cons_succ]
              refine wpAnyH_take (i := 7) (oi := ⟨some 23, .load 40 (.tmp 22), 40, "slices.go:25", #[⟨6, .data⟩], none⟩) (v := .agg #[.int .u32 (a : Int), .int .u8 (nn : Int), .int .i64 (v' : Int), .int .u16 (m' : Int), .int .u16 (s' : Int)]) rfl (by kernel_rfl) (by kernel_rfl) (by kernel_rfl) (fun _ _ _ h => h) (Or.inl ⟨by rfl, fun w hSw => by obtain ⟨k0, k1, k2, k3, k4⟩ := HK2.out.keep (hSw.block b2 HBL.out.2); go_simp⟩) (by assumption) ?_
              try simp only [Act.put, List.setIfInBounds_toArray, List.set_cons_zero, List.set_cons_succ]
              refine wpAnyH_take (i := 8) (oi := ⟨some 24, .binOp .neq 40 (.tmp 19) (.tmp 23) 40, 4, "slices.go:25", #[⟨3, .data⟩, ⟨7, .data⟩], none⟩) (v := .bool true) rfl (by kernel_rfl) (by kernel_rfl) (by kernel_rfl) (fun _ _ _ h => h) (Or.inl ⟨by rfl, fun w hSw => by go_simp⟩) (by assumption) ?_
              try simp only [Act.put, List.setIfInBounds_toArray, List.set_cons_zero, List.set_cons_succ]
              refine wpAnyH_done (by kernel_rfl) ?_ _
              try unfold NoPanic
              have HB9 := Lib.hid (HR.out.1.trans (hHeld.mono HR.out.1.size))
              clear hHeld
              have HV := Lib.hid (HNO.out (by intro e9; injection e9 with e0 e1 e2 e3 e4; exact hv e2))
              go_wp2
              go_ret
              exact ⟨by rw [HV.out]; rfl, HB9.out⟩
          · have hne : ¬ ((nn : Int) = (nn' : Int)) := by omega
            refine wp_region_noPanic ?_
            refine wp_region_held_drew (S := fun y9 : World => Below wr.heap.size wr y9) (by kernel_rfl) ((Below.refl _ _).drew) (fun hHeld => ?_)
            generalize wr.drew = wd at *
            refine wpAnyH_take (i := 0) (oi := ⟨some 16, .move (.tmp 0), 37, "slices.go:25", #[], none⟩) (v := .slice (some ⟨b1, o1, none⟩) n c1) rfl (by kernel_rfl) (by kernel_rfl) (by kernel_rfl) (fun _ _ _ h => h) (Or.inl ⟨by rfl, fun w hSw => by go_simp⟩) (by assumption) ?_
            try simp only [Act.put, List.setIfInBounds_toArray, List.set_cons_zero, List.set_cons_succ]
            refine wpAnyH_take (i := 1) (oi := ⟨some 17, .move (.tmp 5), 3, "slices.go:25", #[], none⟩) (v := .int .i64 (j : Int)) rfl (by kernel_rfl) (by kernel_rfl) (by kernel_rfl) (fun _ _ _ h => h) (Or.inl ⟨by rfl, fun w hSw => by go_simp⟩) (by assumption) ?_
            try simp only [Act.put, List.setIfInBounds_toArray, List.set_cons_zero, List.set_cons_succ]
            refine wpAnyH_take (i := 2) (oi := ⟨some 18, .indexAddr 37 (.tmp 16) (.tmp 17), 0, "slices.go:25", #[⟨0, .data⟩, ⟨1, .data⟩], none⟩) (v := .pointer (some ⟨b1, o1 + j * 5, none⟩)) rfl (by kernel_rfl) (by kernel_rfl) (by kernel_rfl) (fun _ _ _ h => h) (Or.inl ⟨by rfl, fun w hSw => by go_simp⟩) (by assumption) ?_
            try simp only [Act.put, List.setIfInBounds_toArray, List.set_cons_zero, List.set_cons_succ]
            refine wpAnyH_take (i := 3) (oi := ⟨some 19, .load 40 (.tmp 18), 40, "slices.go:25", #[⟨2, .data⟩], none⟩) (v := .agg #[.int .u32 (a : Int), .int .u8 (nn : Int), .int .i64 (v : Int), .int .u16 (m : Int), .int .u16 (s : Int)]) rfl (by kernel_rfl) (by kernel_rfl) (by kernel_rfl) (fun _ _ _ h => h) (Or.inl ⟨by rfl, fun w hSw => by obtain ⟨k0, k1, k2, k3, k4⟩ := HK1.out.keep (hSw.block b1 HBL.out.1); go_simp⟩) (by assumption) ?_
            try simp only [Act.put, List.setIfInBounds_toArray, List.set_cons_zero, List.set_cons_succ]
            refine wpAnyH_take (i := 4) (oi := ⟨some 20, .move (.tmp 1), 37, "slices.go:25", #[], none⟩) (v := .slice (some ⟨b2, o2, none⟩) n c2) rfl (by kernel_rfl) (by kernel_rfl) (by kernel_rfl) (fun _ _ _ h => h) (Or.inl ⟨by rfl, fun w hSw => by go_simp⟩) (by assumption) ?_
            try simp only [Act.put, List.setIfInBounds_toArray, List.set_cons_zero, List.set_cons_succ]
            refine wpAnyH_take (i := 5) (oi := ⟨some 21, .move (.tmp 5), 3, "slices.go:25", #[], none⟩) (v := .int .i64 (j : Int)) rfl (by kernel_rfl) (by kernel_rfl) (by kernel_rfl) (fun _ _ _ h => h) (Or.inl ⟨by rfl, fun w hSw => by go_simp⟩) (by assumption) ?_
            try simp only [Act.put, List.setIfInBounds_toArray, List.set_cons_zero, List.set_cons_succ]
            refine wpAnyH_take (i := 6) (oi := ⟨some 22, .indexAddr 37 (.tmp 20) (.tmp 21), 0, "slices.go:25", #[⟨4, .data⟩, ⟨5, .data⟩], none⟩) (v := .pointer (some ⟨b2, o2 + j * 5, none⟩)) rfl (by kernel_rfl) (by kernel_rfl) (by kernel_rfl) (fun _ _ _ h => h) (Or.inl ⟨by rfl, fun w hSw => by go_simp⟩) (by assumption) ?_
            try simp only [Act.put, List.setIfInBounds_toArray, List.set_cons_zero, List.set_cons_succ]
            refine wpAnyH_take (i := 7) (oi := ⟨some 23, .load 40 (.tmp 22), 40, "slices.go:25", #[⟨6, .data⟩], none⟩) (v := .agg #[.int .u32 (a : Int), .int .u8 (nn' : Int), .int .i64 (v' : Int), .int .u16 (m' : Int), .int .u16 (s' : Int)]) rfl (by kernel_rfl) (by kernel_rfl) (by kernel_rfl) (fun _ _ _ h => h) (Or.inl ⟨by rfl, fun w hSw => by obtain ⟨k0, k1, k2, k3, k4⟩ := HK2.out.keep (hSw.block b2 HBL.out.2); go_simp⟩) (by assumption) ?_
            try simp only [Act.put, List.setIfInBounds_toArray, List.set_cons_zero, List.set_cons_succ]
            refine wpAnyH_take (i := 8) (oi := ⟨some 24, .binOp .neq 40 (.tmp 19) (.tmp 23) 40, 4, "slices.go:25", #[⟨3, .data⟩, ⟨7, .data⟩], none⟩) (v := .bool true) rfl (by kernel_rfl) (by kernel_rfl) (by kernel_rfl) (fun _ _ _ h => h) (Or.inl ⟨by rfl, fun w hSw => by go_simp⟩) (by assumption) ?_
            try simp only [Act.put, List.setIfInBounds_toArray, List.set_cons_zero, List.set_cons_succ]
            refine wpAnyH_done (by kernel_rfl) ?_ _
            try unfold NoPanic
            have HB9 := Lib.hid (HR.out.1.trans (hHeld.mono HR.out.1.size))
            clear hHeld
            have HV := Lib.hid (HNO.out (by intro e9; injection e9 with e0 e1 e2 e3 e4; exact hnn e1))
            go_wp2
            go_ret
            exact ⟨by rw [HV.out]; rfl, HB9.out⟩
        · have hne : ¬ ((a : Int) = (a' : Int)) := by omega
          refine wp_region_noPanic ?_
          refine wp_region_held_drew (S := fun y9 : World => Below wr.heap.size wr y9) (by kernel_rfl) ((Below.refl _ _).drew) (fun hHeld => ?_)
          generalize wr.drew = wd at *
          refine wpAnyH_take (i := 0) (oi := ⟨some 16, .move (.tmp 0), 37, "slices.go:25", #[], none⟩) (v := .slice (some ⟨b1, o1, none⟩) n c1) rfl (by kernel_rfl) (by kernel_rfl) (by kernel_rfl) (fun _ _ _ h => h) (Or.inl ⟨by rfl, fun w hSw => by go_simp⟩) (by assumption) ?_
          try simp only [Act.put, List.setIfInBounds_toArray, List.set_cons_zero, List.set_cons_succ]
          refine wpAnyH_take (i := 1) (oi := ⟨some 17, .move (.tmp 5), 3, "slices.go:25", #[], none⟩) (v := .int .i64 (j : Int)) rfl (by kernel_rfl) (by kernel_rfl) (by kernel_rfl) (fun _ _ _ h => h) (Or.inl ⟨by rfl, fun w hSw => by go_simp⟩) (by assumption) ?_
          try simp only [Act.put, List.setIfInBounds_toArray, List.set_cons_zero, List.set_cons_succ]
          refine wpAnyH_take (i := 2) (oi := ⟨some 18, .indexAddr 37 (.tmp 16) (.tmp 17), 0, "slices.go:25", #[⟨0, .data⟩, ⟨1, .data⟩], none⟩) (v := .pointer (some ⟨b1, o1 + j * 5, none⟩)) rfl (by kernel_rfl) (by kernel_rfl) (by kernel_rfl) (fun _ _ _ h => h) (Or.inl ⟨by rfl, fun w hSw => by go_simp⟩) (by assumption) ?_
          try simp only [Act.put, List.setIfInBounds_toArray, List.set_cons_zero, List.set_cons_succ]
          refine wpAnyH_take (i := 3) (oi := ⟨some 19, .load 40 (.tmp 18), 40, "slices.go:25", #[⟨2, .data⟩], none⟩) (v := .agg #[.int .u32 (a : Int), .int .u8 (nn : Int), .int .i64 (v : Int), .int .u16 (m : Int), .int .u16 (s : Int)]) rfl (by kernel_rfl) (by kernel_rfl) (by kernel_rfl) (fun _ _ _ h => h) (Or.inl ⟨by rfl, fun w hSw => by obtain ⟨k0, k1, k2, k3, k4⟩ := HK1.out.keep (hSw.block b1 HBL.out.1); go_simp⟩) (by assumption) ?_
          try simp only [Act.put, List.setIfInBounds_toArray, List.set_cons_zero, List.set_cons_succ]
          refine wpAnyH_take (i := 4) (oi := ⟨some 20, .move (.tmp 1), 37, "slices.go:25", #[], none⟩) (v := .slice (some ⟨b2, o2, none⟩) n c2) rfl (by kernel_rfl) (by kernel_rfl) (by kernel_rfl) (fun _ _ _ h => h) (Or.inl ⟨by rfl, fun w hSw => by go_simp⟩) (by assumption) ?_
          try simp only [Act.put, List.setIfInBounds_toArray, List.set_cons_zero, List.set_cons_succ]
          refine wpAnyH_take (i := 5) (oi := ⟨some 21, .move (.tmp 5), 3, "slices.go:25", #[], none⟩) (v := .int .i64 (j : Int)) rfl (by kernel_rfl) (by kernel_rfl) (by kernel_rfl) (fun _ _ _ h => h) (Or.inl ⟨by rfl, fun w hSw => by go_simp⟩) (by assumption) ?_
          try simp only [Act.put, List.setIfInBounds_toArray, List.set_cons_zero, List.set_cons_succ]
          refine wpAnyH_take (i := 6) (oi := ⟨some 22, .indexAddr 37 (.tmp 20) (.tmp 21), 0, "slices.go:25", #[⟨4, .data⟩, ⟨5, .data⟩], none⟩) (v := .pointer (some ⟨b2, o2 + j * 5, none⟩)) rfl (by kernel_rfl) (by kernel_rfl) (by kernel_rfl) (fun _ _ _ h => h) (Or.inl ⟨by rfl, fun w hSw => by go_simp⟩) (by assumption) ?_
          try simp only [Act.put, List.setIfInBounds_toArray, List.set_cons_zero, List.set_cons_succ]
          refine wpAnyH_take (i := 7) (oi := ⟨some 23, .load 40 (.tmp 22), 40, "slices.go:25", #[⟨6, .data⟩], none⟩) (v := .agg #[.int .u32 (a' : Int), .int .u8 (nn' : Int), .int .i64 (v' : Int), .int .u16 (m' : Int), .int .u16 (s' : Int)]) rfl (by kernel_rfl) (by kernel_rfl) (by kernel_rfl) (fun _ _ _ h => h) (Or.inl ⟨by rfl, fun w hSw => by obtain ⟨k0, k1, k2, k3, k4⟩ := HK2.out.keep (hSw.block b2 HBL.out.2); go_simp⟩) (by assumption) ?_
          try simp only [Act.put, List.setIfInBounds_toArray, List.set_cons_zero, List.set_cons_succ]
          refine wpAnyH_take (i := 8) (oi := ⟨some 24, .binOp .neq 40 (.tmp 19) (.tmp 23) 40, 4, "slices.go:25", #[⟨3, .data⟩, ⟨7, .data⟩], none⟩) (v := .bool true) rfl (by kernel_rfl) (by kernel_rfl) (by kernel_rfl) (fun _ _ _ h => h) (Or.inl ⟨by rfl, fun w hSw => by go_simp⟩) (by assumption) ?_
          try simp only [Act.put, List.setIfInBounds_toArray, List.set_cons_zero, List.set_cons_succ]
          refine wpAnyH_done (by kernel_rfl) ?_ _
          try unfold NoPanic
          have HB9 := Lib.hid (HR.out.1.trans (hHeld.mono HR.out.1.size))
          clear hHeld
          have HV := Lib.hid (HNO.out (by intro e9; injection e9 with e0 e1 e2 e3 e4; exact ha e0))
          go_wp2
          go_ret
          exact ⟨by rw [HV.out]; rfl, HB9.out⟩
      · obtain rfl : j = n := by omega
        have HE := Lib.hid (show decide (l1 = l2) = true from decide_eq_true (by
          have h9 := HR.out.2
          rw [List.take_of_length_le (by rw [← HH.out.1]; exact Nat.le_refl _), List.take_of_length_le (by rw [← HH.out.2.1, ← HH.out.1]; exact Nat.le_refl _)] at h9
          exact h9))
        go_wp2
        go_ret
        exact ⟨by rw [HE.out]; rfl, HR.out.1⟩
  · have hne : decide (l1 = l2) = false := decide_eq_false fun e => hl (by rw [e])
    rw [hne]
    obtain ⟨n1, hn1⟩ : ∃ n1, n1 = l1.length := ⟨_, rfl⟩
    obtain ⟨n2, hn2⟩ : ∃ n2, n2 = l2.length := ⟨_, rfl⟩
    rw [← hn1, ← hn2] at hl ⊢
    have hl2 : ¬ ((n1 : Int) = (n2 : Int)) := by omega
    clear hne hs1 hs2 hn1 hn2
    go_enter Tryz.func99, Tryz.ntmps99
    go_wp2
    go_ret
    exact ⟨rfl, Below.refl _ _⟩
theorem clone_any (w : World) (B : Nat) (v : Value) (rs : List Ro) (hown : GOwn 40 5 Ro.cl w B v rs) (hlen : rs.length ≤ 1000) :
    Calls Tryz.prog 77 #[v] w fun e w' => ∃ v', e = .returned v' ∧ GOwn 40 5 Ro.cl w' w.heap.size v' rs ∧ Below w.heap.size w w' := by
  obtain ⟨i0, hi, hz0, hz1, hz2⟩ := info_parts info53
  have q26 : ∀ (w : World) (a : Option Addr) (n c n' c' : Nat), (binOp .eql 37 (.slice a n c) (.slice none n' c')).run Tryz.prog w = .ok (.bool a.isNone) w := fun w a n c n' c' => Lib.run_eql_slice_nil w _ _ a n c n' c' Tryz.underlying37
  rcases hown.2 with ⟨rfl, h0⟩ | ⟨g, cap, cur, rfl, hBg, hg, h1, h2, h3, h4⟩
  · have : rs = [] := List.eq_nil_of_length_eq_zero h0
    subst this
    clear hi hz0 hz1 hz2
    go_enter Tryz.func77, Tryz.ntmps77
    go_wp2
    go_ret
    exact ⟨_, rfl, GOwn.nil _ _ _ _ _, Below.refl _ _⟩
  · have hn : ∀ j u, (rs.flatMap Ro.cl)[j]? = some u → (w.alloc (.cells #[] 40)).cell? ((⟨g, 0, none⟩ : Addr).add j) = some u := fun j u hj => by
      refine Lib.cell?_alloc_some _ ?_
      rw [Addr.add_lit, Nat.zero_add, cell_of_row _ _ _ _ 40 (0, 0) hg]
      rw [← h4, List.getElem?_take] at hj
      split at hj
      · simpa using hj
      · cases hj
    have HI := Lib.hid (And.intro hi (And.intro hz0 (And.intro hz1 (And.intro hz2 hn))))
    have hnn := World.ownsRow_made (base := w.heap.size) (e := 40) (size := 5) w #[] 0 (Nat.le_refl _) (Nat.zero_le _) rfl
    have HO := Lib.hid hnn
    clear hi hz0 hz1 hz2 hn hnn hown hg h3 h4 hBg
    go_enter Tryz.func77, Tryz.ntmps77
    go_wp2_with (at_builtin; refine wpList_append_own_at _ rfl _ _ 37 rfl w.heap.size 40 i0 _ 5 24 Tryz.underlying37 HI.out.1 HI.out.2.1 HI.out.2.2.1 HI.out.2.2.2.1 rfl (by decide) _ 0 [] rfl HO.out ⟨g, 0, none⟩ rs.length cap (rs.flatMap Ro.cl) rfl (gflat_len (cl := Ro.cl) (k := 5) (fun _ => rfl) rs) HI.out.2.2.2.2 (fun u hu => by obtain ⟨y, -, hy⟩ := List.mem_flatMap.1 hu; exact ro_one y u hy) (by unfold maxLen; omega) (by omega) (by simp) ?_; intro v' w' h5 h6 _ h7; have HZ := Lib.hid (And.intro h5 (And.intro h6 h7)); clear h5 h6 h7)
    go_ret
    refine ⟨v', rfl, by have := HZ.out.1; unfold GOwn; simpa using this, ?_⟩
    exact ((Below.refl _ w).alloc (Nat.le_refl _) _).grown HZ.out.2.1 (by simp) (fun k hk => by have e : some w.heap.size = some k := hk; injection e with e; omega)
theorem chosen_any (w : World) (lo q : Nat) (e : Eng) (m : Mem) (h : EngAt lo w q e m) (hok : e.Ok) :
    Calls Tryz.prog 36 #[.pointer (some ⟨q, 0, none⟩)] w fun en w' => ∃ v', en = .returned v' ∧ GOwn 40 5 Ro.cl w' w.heap.size v' e.ch ∧ Below w.heap.size w w' := by
  obtain ⟨A, cp, hv, -⟩ := h.p.ch.form (fun _ => rfl)
  have c5 := h.ec.c5
  have hc := clone_any w lo m.vc e.ch h.p.ch (by have := hok.chl; omega)
  have hql := h.lt
  rw [hv] at c5 hc
  have HC := Lib.hid hc
  clear hc hv h
  go_enter Tryz.func36, Tryz.ntmps36
  go_wp2_with (go_at_call 77; (with_reducible refine HC.out.mono ?_); rintro en w1 ⟨v1, rfl, O1, B1⟩; have HZ := Lib.hid (And.intro O1 B1); clear O1 B1)
  go_ret
  exact ⟨v1, rfl, HZ.out.1, HZ.out.2⟩
end Go.Proofs.YtjbogjbopgcbhaaGreatDoor.Eg
