/- What a router tells: what is safe; one part; a hello; what was asked for. What a router tells: whom it hears. What a router tells: the ways. What a router tells: a packet. -/
import Derived.Test.YtjbogjbopgcbhaaGreatDoorYO
namespace Go.Proofs.YtjbogjbopgcbhaaGreatDoor.Eg
open Pre Ser Rts
open Go.Proofs.YtjbogjbopgcbhaaGreatDoor.Src (row1 row2 Mk SrcAt)
open Go.Proofs.YtjbogjbopgcbhaaGreatDoor.Lk (LkAt)
open Go.ChangeShapes Go.WideShapes Go.ChangeAt Go.RowKit
set_option maxRecDepth 8000
set_option linter.unusedVariables false
set_option linter.unusedSimpArgs false
open Go.Proofs.YtjbogjbopgcbhaaGreatDoor.Src (pv mv pA pN)
set_option linter.unusedSimpArgs false
set_option maxHeartbeats 1000000 in
theorem idxfRw2_any (w : World) (A : Option Addr) (n c : Nat) (L : List (Rw)) (hn : n = L.length) (hlen : n ≤ 1000) (hsl : GSl 10 Rw.cl w A L) (p : Rw → Bool) (g xb yb : Nat) (eg : ∀ args w, (callFunc g args).run Tryz.prog w = .ok (.enter g args) w)
    (hp : ∀ (W : World) (e : Rw), Below w.heap.size w W → e ∈ L → Calls Tryz.prog g #[.agg #[.int .u32 (e.a : Int), .int .u8 (e.n : Int), .bool e.h, .int .u32 (e.x : Int), .int .u8 (e.y : Int), .int .i64 (e.v : Int), .int .u16 (e.g : Int), .int .u16 (e.r : Int), .int .u16 (e.s : Int), .int .u16 (e.m : Int)], .pointer (some ⟨xb, 0, none⟩), .pointer (some ⟨yb, 0, none⟩)] W fun en w' => en = .returned (.bool (p e)) ∧ Below W.heap.size W w') :
    Calls Tryz.prog 166 #[.slice A n c, .func (.func g) #[] #[.pointer (some ⟨xb, 0, none⟩), .pointer (some ⟨yb, 0, none⟩)]] w fun en w' => en = .returned (.int .i64 (gidx p L)) ∧ Below w.heap.size w w' := by
  have HH := Lib.hid (And.intro hn (And.intro hsl hp))
  clear hn hsl hp
  go_enter Tryz.func166, Tryz.ntmps166
  go_wp2
  go_loopw [5, 8] (fun _ i wr => ∃ j : Nat, j ≤ n ∧ i = .int .i64 j ∧ Hid (Below w.heap.size w wr ∧ ∀ k (hk : k < L.length), k < j → p L[k] = false)) (fun _ i _ => n - (intOf i).toNat)
  case atStart => exact ⟨0, Nat.zero_le _, rfl, Below.refl _ _, fun k hk h => absurd h (Nat.not_lt_zero _)⟩
  case round =>
    obtain ⟨j, hj, rfl, HR⟩ := hrel
    by_cases hlt : j < n
    · have hjl : j < L.length := by rw [← HH.out.1]; exact hlt
      obtain ⟨b, o, rfl, hb, hE0⟩ := (HH.out.2.1.below HR.out.1) j hjl
      have hE := RwAt.of hE0
      clear hE0
      have hcall := HH.out.2.2 wr L[j] HR.out.1 (List.getElem_mem hjl)
      have HX := Lib.hid (fun (h : p L[j] = true) => gidx_hit hjl h HR.out.2)
      have HY := Lib.hid (fun (h : p L[j] = false) (k : Nat) (hk : k < L.length) (hkj : k < j + 1) => show p L[k] = false by
        rcases Nat.lt_or_eq_of_le (Nat.lt_succ_iff.1 hkj) with h1 | h1
        · exact HR.out.2 k hk h1
        · subst h1; exact h)
      generalize L[j] = e at hE hcall HX HY
      obtain ⟨k0, k1, k2, k3, k4, k5, k6, k7, k8, k9⟩ := hE
      cases hq : p e with
      | true =>
        rw [hq] at hcall
        have HV := Lib.hid (HX.out hq)
        clear HX HY hq
        go_wp2_with (go_at_fn g; refine hcall.mono ?_; rintro en w' ⟨rfl, hb'⟩)
        go_ret
        exact ⟨by rw [HV.out]; rfl, HR.out.1.trans (hb'.mono HR.out.1.size)⟩
      | false =>
        rw [hq] at hcall
        have HV := Lib.hid (HY.out hq)
        clear HX HY hq
        go_wp2_with (go_at_fn g; refine hcall.mono ?_; rintro en w' ⟨rfl, hb'⟩)
        go_roundw
        case rel => exact ⟨j + 1, by omega, by go_num, HR.out.1.trans (hb'.mono HR.out.1.size), HV.out⟩
        case measure => simp [intOf]; omega
    · obtain rfl : j = n := by omega
      have HV := Lib.hid (gidx_miss (p := p) (L := L) fun k hk => HR.out.2 k hk (by have := HH.out.1; omega))
      go_wp2
      go_ret
      exact ⟨by rw [HV.out]; rfl, HR.out.1⟩
theorem contRw2_any (w : World) (A : Option Addr) (n c : Nat) (L : List (Rw)) (hn : n = L.length) (hlen : n ≤ 1000) (hsl : GSl 10 Rw.cl w A L) (p : Rw → Bool) (g xb yb : Nat) (eg : ∀ args w, (callFunc g args).run Tryz.prog w = .ok (.enter g args) w)
    (hp : ∀ (W : World) (e : Rw), Below w.heap.size w W → e ∈ L → Calls Tryz.prog g #[.agg #[.int .u32 (e.a : Int), .int .u8 (e.n : Int), .bool e.h, .int .u32 (e.x : Int), .int .u8 (e.y : Int), .int .i64 (e.v : Int), .int .u16 (e.g : Int), .int .u16 (e.r : Int), .int .u16 (e.s : Int), .int .u16 (e.m : Int)], .pointer (some ⟨xb, 0, none⟩), .pointer (some ⟨yb, 0, none⟩)] W fun en w' => en = .returned (.bool (p e)) ∧ Below W.heap.size W w') :
    Calls Tryz.prog 149 #[.slice A n c, .func (.func g) #[] #[.pointer (some ⟨xb, 0, none⟩), .pointer (some ⟨yb, 0, none⟩)]] w fun en w' => en = .returned (.bool (L.any p)) ∧ Below w.heap.size w w' := by
  have c60 := idxfRw2_any w A n c L hn hlen hsl p g xb yb eg hp
  have hge := gidx_ge (p := p) (L := L)
  obtain ⟨z, hz⟩ : ∃ z, z = gidx p L := ⟨_, rfl⟩
  rw [← hz] at c60 hge
  have HC := Lib.hid c60
  have HG := Lib.hid hge
  clear c60 hge hz hn hsl hp eg
  go_enter Tryz.func149, Tryz.ntmps149
  go_wp2_with (go_at_call 166; (with_reducible refine HC.out.mono ?_); rintro en w' ⟨rfl, B⟩)
  go_ret
  exact ⟨by rw [← HG.out]; rfl, B⟩
def safeR (a n s m : Nat) (e : Rw) : Bool := (e.a == a && e.n == n) && !nearer (s : Int) (m : Int) (e.s : Int) (e.m : Int)
theorem safep_any (W : World) (e : Rw) (xb yb a n s m : Nat) (hx : W.heap[xb]? = some (.cells #[.int .u32 (a : Int), .int .u8 (n : Int)] 30 (0, 0))) (hy : W.heap[yb]? = some (.cells #[.int .u16 (s : Int), .int .u16 (m : Int)] 48 (0, 0))) :
    Calls Tryz.prog 150 #[.agg #[.int .u32 (e.a : Int), .int .u8 (e.n : Int), .bool e.h, .int .u32 (e.x : Int), .int .u8 (e.y : Int), .int .i64 (e.v : Int), .int .u16 (e.g : Int), .int .u16 (e.r : Int), .int .u16 (e.s : Int), .int .u16 (e.m : Int)], .pointer (some ⟨xb, 0, none⟩), .pointer (some ⟨yb, 0, none⟩)] W fun en w' => en = .returned (.bool (safeR a n s m e)) ∧ Below W.heap.size W w' := by
  have hxl := (Array.getElem?_eq_some_iff.1 hx).1
  have hyl := (Array.getElem?_eq_some_iff.1 hy).1
  obtain ⟨p0, p1, -⟩ := row2 hx
  obtain ⟨k0, k1, -⟩ := row2 hy
  have HN := Lib.hid (fun w => nearer_any (s : Int) (m : Int) (e.s : Int) (e.m : Int) w)
  have BA := (Below.refl W.heap.size W).alloc (Nat.le_refl _) (.cells (Rw.cl e).toArray 62)
  have HBA := Lib.hid BA
  clear hx hy BA
  unfold safeR
  by_cases h : e.a = a ∧ e.n = n
  · obtain ⟨rfl, rfl⟩ := h
    simp only [BEq.rfl, Bool.true_and]
    generalize nearer (s : Int) (m : Int) (e.s : Int) (e.m : Int) = x at *
    go_enter Tryz.func150, Tryz.ntmps150
    go_wp2_with (go_at_call 151; (with_reducible refine (HN.out _).mono ?_); rintro en w' ⟨rfl, hB⟩; have HB := Lib.hid (HBA.out.trans (hB.mono HBA.out.size)); clear hB)
    go_ret
    exact ⟨rfl, HB.out⟩
  · have h1 : (e.a == a && e.n == n) = false := by
      rw [Bool.and_eq_false_iff]
      by_cases h2 : e.a = a
      · exact Or.inr (by simpa using fun h3 => h ⟨h2, h3⟩)
      · exact Or.inl (by simpa using h2)
    rw [h1, Bool.false_and]
    clear h1
    by_cases h2 : e.a = a
    · have h3 : ¬ e.n = n := fun h3 => h ⟨h2, h3⟩
      have h4 : ((e.n : Int) == (n : Int)) = false := by simp; omega
      subst h2
      clear h h3
      go_enter Tryz.func150, Tryz.ntmps150
      go_wp2
      go_ret
      exact ⟨rfl, HBA.out⟩
    · have h4 : ((e.a : Int) == (a : Int)) = false := by simp; omega
      clear h h2
      go_enter Tryz.func150, Tryz.ntmps150
      go_wp2
      go_ret
      exact ⟨rfl, HBA.out⟩
theorem isSafe_any (w : World) (a n s m : Nat) (A : Option Addr) (k c : Nat) (L : List Rw) (hk : k = L.length) (hl : k ≤ 1000) (hs : GSl 10 Rw.cl w A L) :
    Calls Tryz.prog 106 #[.agg #[.int .u32 (a : Int), .int .u8 (n : Int)], .agg #[.int .u16 (s : Int), .int .u16 (m : Int)], .slice A k c] w fun en w' => en = .returned (.bool (L.any (safeR a n s m))) ∧ Below w.heap.size w w' := by
  have B0 := ((Below.refl w.heap.size w).alloc (Nat.le_refl _) (.cells #[.int .u32 (a : Int), .int .u8 (n : Int)] 30)).alloc (by simp) (.cells #[.int .u16 (s : Int), .int .u16 (m : Int)] 48)
  have r0 : ((w.alloc (.cells #[.int .u32 (a : Int), .int .u8 (n : Int)] 30)).alloc (.cells #[.int .u16 (s : Int), .int .u16 (m : Int)] 48)).heap[w.heap.size]? = some (.cells #[.int .u32 (a : Int), .int .u8 (n : Int)] 30 (0, 0)) := (heap_alloc_old _ _ (by simp)).trans (heap_alloc_new w _)
  have r1 := Src.heap_new1 w (.cells #[.int .u32 (a : Int), .int .u8 (n : Int)] 30) (.cells #[.int .u16 (s : Int), .int .u16 (m : Int)] 48)
  have hc := contRw2_any _ A k c L hk hl (hs.below B0) (safeR a n s m) 150 w.heap.size (w.heap.size + 1) (enters_of Tryz.func150 (by kernel_rfl) rfl) (fun W e B _ => safep_any W e _ _ a n s m (brow B r0) (brow B r1))
  have HC := Lib.hid (And.intro hc B0)
  clear hc B0 r0 r1 hs hk hl
  go_enter Tryz.func106, Tryz.ntmps106
  go_wp2_with (go_at_call 149; (with_reducible refine HC.out.1.mono ?_); rintro en w' ⟨rfl, hB⟩; have HB := Lib.hid (HC.out.2.trans (hB.mono HC.out.2.size)); clear hB)
  go_ret
  exact ⟨rfl, HB.out⟩
theorem update_any (w : World) (q id a n s m : Nat) (hq : q < w.heap.size) (c0 : w.cell? ⟨q, 0, none⟩ = some (.int .i64 (id : Int))) :
    Calls Tryz.prog 105 #[.pointer (some ⟨q, 0, none⟩), .agg #[.int .u32 (a : Int), .int .u8 (n : Int)], .agg #[.int .u16 (s : Int), .int .u16 (m : Int)]] w fun en w' => en = .returned (.agg #[.int .u8 3, .int .u64 0, .int .i64 (id : Int), .int .u32 (a : Int), .int .u8 (n : Int), .int .u16 (s : Int), .int .u16 (m : Int)]) ∧ Below w.heap.size w w' := by
  have B0 := (((Below.refl w.heap.size w).alloc (Nat.le_refl _) (.cells #[.int .u32 (a : Int), .int .u8 (n : Int)] 30)).alloc (by simp) (.cells #[.int .u16 (s : Int), .int .u16 (m : Int)] 48)).alloc (by simp; omega) (.cells #[.int .u8 0, .int .u64 0, .int .i64 0, .int .u32 0, .int .u8 0, .int .u16 0, .int .u16 0] 32)
  have r0 : (((w.alloc (.cells #[.int .u32 (a : Int), .int .u8 (n : Int)] 30)).alloc (.cells #[.int .u16 (s : Int), .int .u16 (m : Int)] 48)).alloc (.cells #[.int .u8 0, .int .u64 0, .int .i64 0, .int .u32 0, .int .u8 0, .int .u16 0, .int .u16 0] 32)).heap[w.heap.size]? = some (.cells #[.int .u32 (a : Int), .int .u8 (n : Int)] 30 (0, 0)) := (heap_alloc_old _ _ (by simp; omega)).trans ((heap_alloc_old _ _ (by simp)).trans (heap_alloc_new w _))
  have r1 : (((w.alloc (.cells #[.int .u32 (a : Int), .int .u8 (n : Int)] 30)).alloc (.cells #[.int .u16 (s : Int), .int .u16 (m : Int)] 48)).alloc (.cells #[.int .u8 0, .int .u64 0, .int .i64 0, .int .u32 0, .int .u8 0, .int .u16 0, .int .u16 0] 32)).heap[w.heap.size + 1]? = some (.cells #[.int .u16 (s : Int), .int .u16 (m : Int)] 48 (0, 0)) := (heap_alloc_old _ _ (by simp)).trans (Src.heap_new1 w _ _)
  have r2 : (((w.alloc (.cells #[.int .u32 (a : Int), .int .u8 (n : Int)] 30)).alloc (.cells #[.int .u16 (s : Int), .int .u16 (m : Int)] 48)).alloc (.cells #[.int .u8 0, .int .u64 0, .int .i64 0, .int .u32 0, .int .u8 0, .int .u16 0, .int .u16 0] 32)).heap[w.heap.size + 1 + 1]? = some (.cells #[.int .u8 0, .int .u64 0, .int .i64 0, .int .u32 0, .int .u8 0, .int .u16 0, .int .u16 0] 32 (0, 0)) := by
    have h := heap_alloc_new ((w.alloc (.cells #[.int .u32 (a : Int), .int .u8 (n : Int)] 30)).alloc (.cells #[.int .u16 (s : Int), .int .u16 (m : Int)] 48)) (.cells #[.int .u8 0, .int .u64 0, .int .i64 0, .int .u32 0, .int .u8 0, .int .u16 0, .int .u16 0] 32)
    simpa using h
  have c0' := ((Ser.bcell B0).1 q 0 hq).trans c0
  have hq' := Nat.lt_of_lt_of_le hq B0.size
  have HB0 := Lib.hid B0
  have hq9 := hq
  clear c0 hq B0
  go_enter Tryz.func105, Tryz.ntmps105
  go_upto_region 1 with (fail)
  generalize ((w.alloc _).alloc _).alloc _ = w0 at *
  have HR0 := Lib.hid r0
  have HR1 := Lib.hid r1
  have HR2 := Lib.hid r2
  have HC0 := Lib.hid c0'
  have HQ := Lib.hid (And.intro hq' hq9)
  clear r0 r1 r2 c0' hq' hq9
  refine wp_region_noPanic ?_
  refine wp_region_held_drew (S := fun y : World => Fr (fun k9 => k9 = w.heap.size + 1 + 1) w0 y ∧ ∃ x0 x1 x2 x3 x4 x5 x6, y.heap[w.heap.size + 1 + 1]? = some (.cells #[x0, x1, x2, x3, x4, x5, x6] 32 (0, 0))) (by kernel_rfl) ⟨Fr.of ((Below.refl _ w0).drew), _, _, _, _, _, _, _, HR2.out⟩ (fun hHeld => ?_)
  generalize w0.drew = wd at *
  refine wpAnyH_take (i := 0) (oi := ⟨some 7, .move (.tmp 0), 24, "engine.go:344", #[], none⟩) (v := .pointer (some ⟨q, 0, none⟩)) rfl (by kernel_rfl) (by kernel_rfl) (by kernel_rfl) (fun _ _ _ h => h) (Or.inl ⟨by rfl, fun w hSw => by go_simp⟩) (by assumption) ?_
  try simp only [Act.put, List.setIfInBounds_toArray, List.set_cons_zero, List.set_cons_succ]
  refine wpAnyH_take (i := 1) (oi := ⟨some 8, .nilCheck (.tmp 7), 0, "engine.go:344", #[⟨0, .data⟩], none⟩) (v := .pointer (some ⟨q, 0, none⟩)) rfl (by kernel_rfl) (by kernel_rfl) (by kernel_rfl) (fun _ _ _ h => h) (Or.inl ⟨by rfl, fun w hSw => by go_simp⟩) (by assumption) ?_
  try simp only [Act.put, List.setIfInBounds_toArray, List.set_cons_zero, List.set_cons_succ]
  refine wpAnyH_take (i := 2) (oi := ⟨some 9, .fieldAddr 95 (.tmp 8) 0, 0, "engine.go:344", #[⟨1, .data⟩], none⟩) (v := .pointer (some ⟨q, 0, none⟩)) rfl (by kernel_rfl) (by kernel_rfl) (by kernel_rfl) (fun _ _ _ h => h) (Or.inl ⟨by rfl, fun w hSw => by go_simp⟩) (by assumption) ?_
  try simp only [Act.put, List.setIfInBounds_toArray, List.set_cons_zero, List.set_cons_succ]
  refine wpAnyH_take (i := 3) (oi := ⟨some 10, .load 3 (.tmp 9), 3, "engine.go:344", #[⟨2, .data⟩], none⟩) (v := .int .i64 (id : Int)) rfl (by kernel_rfl) (by kernel_rfl) (by kernel_rfl) (fun _ _ _ h => h) (Or.inl ⟨by rfl, fun w hSw => by have c0 := (World.cell?_of_block (a := ⟨q, 0, none⟩) (hSw.1.block q HQ.out.1 (by have := HQ.out.2; omega))).trans HC0.out; have hql := Nat.lt_of_lt_of_le HQ.out.1 hSw.1.size; go_simp⟩) (by assumption) ?_
  try simp only [Act.put, List.setIfInBounds_toArray, List.set_cons_zero, List.set_cons_succ]
  refine wpAnyH_take (i := 4) (oi := ⟨some 11, .load 30 (.tmp 4), 30, "engine.go:344", #[], none⟩) (v := .agg #[.int .u32 (a : Int), .int .u8 (n : Int)]) rfl (by kernel_rfl) (by kernel_rfl) (by kernel_rfl) (fun _ _ _ h => h) (Or.inl ⟨by rfl, fun w hSw => by obtain ⟨p0, p1, -⟩ := row2 (hSw.1.row HR0.out (by omega)); go_simp⟩) (by assumption) ?_
  try simp only [Act.put, List.setIfInBounds_toArray, List.set_cons_zero, List.set_cons_succ]
  refine wpAnyH_take (i := 5) (oi := ⟨some 12, .fieldAddr 48 (.tmp 5) 0, 0, "engine.go:344", #[], none⟩) (v := .pointer (some ⟨w.heap.size + 1, 0, none⟩)) rfl (by kernel_rfl) (by kernel_rfl) (by kernel_rfl) (fun _ _ _ h => h) (Or.inl ⟨by rfl, fun w hSw => by go_simp⟩) (by assumption) ?_
  try simp only [Act.put, List.setIfInBounds_toArray, List.set_cons_zero, List.set_cons_succ]
  refine wpAnyH_take (i := 6) (oi := ⟨some 13, .load 22 (.tmp 12), 22, "engine.go:344", #[⟨5, .data⟩], none⟩) (v := .int .u16 (s : Int)) rfl (by kernel_rfl) (by kernel_rfl) (by kernel_rfl) (fun _ _ _ h => h) (Or.inl ⟨by rfl, fun w hSw => by obtain ⟨p0, p1, -⟩ := row2 (hSw.1.row HR1.out (by omega)); go_simp⟩) (by assumption) ?_
  try simp only [Act.put, List.setIfInBounds_toArray, List.set_cons_zero, List.set_cons_succ]
  refine wpAnyH_take (i := 7) (oi := ⟨some 14, .fieldAddr 48 (.tmp 5) 1, 0, "engine.go:344", #[], none⟩) (v := .pointer (some ⟨w.heap.size + 1, 1, none⟩)) rfl (by kernel_rfl) (by kernel_rfl) (by kernel_rfl) (fun _ _ _ h => h) (Or.inl ⟨by rfl, fun w hSw => by go_simp⟩) (by assumption) ?_
  try simp only [Act.put, List.setIfInBounds_toArray, List.set_cons_zero, List.set_cons_succ]
  refine wpAnyH_take (i := 8) (oi := ⟨some 15, .load 22 (.tmp 14), 22, "engine.go:344", #[⟨7, .data⟩], none⟩) (v := .int .u16 (m : Int)) rfl (by kernel_rfl) (by kernel_rfl) (by kernel_rfl) (fun _ _ _ h => h) (Or.inl ⟨by rfl, fun w hSw => by obtain ⟨p0, p1, -⟩ := row2 (hSw.1.row HR1.out (by omega)); go_simp⟩) (by assumption) ?_
  try simp only [Act.put, List.setIfInBounds_toArray, List.set_cons_zero, List.set_cons_succ]
  refine wpAnyH_take (i := 9) (oi := ⟨some 16, .build 32 #[(0, .const (.int .u8 3)), (2, .tmp 10), (3, .tmp 11), (4, .tmp 13), (5, .tmp 15)], 32, "engine.go:344", #[⟨3, .data⟩, ⟨4, .data⟩, ⟨6, .data⟩, ⟨8, .data⟩], none⟩) (v := .agg #[.int .u8 3, .int .u64 0, .int .i64 (id : Int), .int .u32 (a : Int), .int .u8 (n : Int), .int .u16 (s : Int), .int .u16 (m : Int)]) rfl (by kernel_rfl) (by kernel_rfl) (by kernel_rfl) (fun _ _ _ h => h) (Or.inl ⟨by rfl, fun w hSw => by go_simp⟩) (by assumption) ?_
  try simp only [Act.put, List.setIfInBounds_toArray, List.set_cons_zero, List.set_cons_succ]
  refine wpAnyH_ready (rs := [10]) (by kernel_rfl) (by simp) ?_
  refine (AllReadyH.cons (o := ⟨none, .store 32 (.tmp 6) (.tmp 16), 0, "engine.go:344", #[⟨9, .data⟩, ⟨0, .phase⟩, ⟨1, .phase⟩, ⟨2, .phase⟩, ⟨3, .phase⟩, ⟨4, .phase⟩, ⟨5, .phase⟩, ⟨6, .phase⟩, ⟨7, .phase⟩, ⟨8, .phase⟩, ⟨9, .phase⟩], none⟩) rfl (fun K hK => ?_) AllReadyH.nil)
  have hH9 := hHeld
  obtain ⟨hF, x0, x1, x2, x3, x4, x5, x6, hr⟩ := hH9
  have hz := (Array.getElem?_eq_some_iff.1 hr).1
  obtain ⟨k0, k1, k2, k3, k4, k5, k6, kf⟩ := row7 hr
  have HS7 := Lib.hid (set7 hr (.int .u8 3) (.int .u64 0) (.int .i64 (id : Int)) (.int .u32 (a : Int)) (.int .u8 (n : Int)) (.int .u16 (s : Int)) (.int .u16 (m : Int)))
  have HF7 := Lib.hid (hF.trans (Fr.grown (X := fun k9 => k9 = w.heap.size + 1 + 1) (Rts.grown7 wd (w.heap.size + 1 + 1) 0 (.int .u8 3) (.int .u64 0) (.int .i64 (id : Int)) (.int .u32 (a : Int)) (.int .u8 (n : Int)) (.int .u16 (s : Int)) (.int .u16 (m : Int))) (fun k e => (Option.some.inj e).symm)))
  go_simp
  refine hK.out _ _ (⟨HF7.out, _, _, _, _, _, _, _, HS7.out⟩) (fun hHeld2 => ?_)
  clear hK K hHeld
  have hHeld := hHeld2
  clear hHeld2
  try simp only [Act.put, List.setIfInBounds_toArray, List.set_cons_zero, List.set_cons_succ]
  refine wpAnyH_done (by kernel_rfl) ?_ _
  try unfold NoPanic
  clear hHeld
  go_wp2
  exact bodyPost_ret (results_cell_row rfl _ _ (w.heap.size + 1 + 1) 32 _ (0, 0) _ rfl HS7.out Tryz.underlying32 rfl info32c) rfl ⟨rfl, HB0.out.trans (HF7.out.below HB0.out.size (fun k e => by omega))⟩
end Go.Proofs.YtjbogjbopgcbhaaGreatDoor.Eg
namespace Go.Proofs.YtjbogjbopgcbhaaGreatDoor.Eg
open Pre Ser Rts
open Go.Proofs.YtjbogjbopgcbhaaGreatDoor.Src (row1 row2 Mk SrcAt)
open Go.Proofs.YtjbogjbopgcbhaaGreatDoor.Lk (LkAt)
open Go.ChangeShapes Go.WideShapes Go.ChangeAt Go.RowKit
set_option maxRecDepth 8000
set_option linter.unusedVariables false
set_option linter.unusedSimpArgs false
open Go.Proofs.YtjbogjbopgcbhaaGreatDoor.Src (pv mv pA pN)
set_option linter.unusedSimpArgs false
def hp (f : Lk.L → Nat) (x : Nat × Lk.L) : Pt := ⟨2, 0, x.1, 0, 0, 0, f x.2⟩
def Eng.heard (e : Eng) (f : Lk.L → Nat) : List Pt := e.nb.map (hp f)
set_option maxHeartbeats 4000000 in
theorem heard59_any (w : World) (lo q : Nat) (e : Eng) (m : Mem) (h : EngAt lo w q e m) (hok : e.Ok) (f : Lk.L → Nat) (hg : ∀ (W : World) (z : Nat) (l : Lk.L), LkAt W z l → l.c < 65536 → Calls Tryz.prog 59 #[.pointer (some ⟨z, 0, none⟩)] W fun en w' => en = .returned (.int .u16 (f l : Int)) ∧ Below W.heap.size W w') :
    Calls Tryz.prog 58 #[.pointer (some ⟨q, 0, none⟩), .func (.func 59) #[] #[]] w fun en w' => ∃ v', en = .returned v' ∧ GOwn 32 7 Pt.cl w' w.heap.size v' (e.heard f) ∧ Below w.heap.size w w' := by
  obtain ⟨A, c, hv, -, hs, -⟩ := gsl_of h.p.nbs (fun _ => rfl)
  have c4 := h.ec.c4
  have hql := h.lt
  have hlen := nbz_len h.p
  change m.vn = .slice A (nbz e m).length c at hv
  change GSl 2 nbC w A (nbz e m) at hs
  rw [hlen] at hv
  rw [hv] at c4
  obtain ⟨n, hn⟩ : ∃ n, n = e.nb.length := ⟨_, rfl⟩
  rw [← hn] at c4
  have hn100 : n ≤ 100 := by rw [hn]; exact hok.nbl
  have HH := Lib.hid (And.intro h (And.intro hok (And.intro hs (And.intro hlen hn))))
  have HGF := Lib.hid hg
  have hok9 := hok.nbk
  clear h hok hs hlen hn hv hg
  go_enter Tryz.func58, Tryz.ntmps58
  go_wp2
  go_loopw [5, 13] (fun v i wr => ∃ A3 c3 n3, v = .slice A3 n3 c3 ∧ ∃ j : Nat, j ≤ n ∧ i = .int .i64 j ∧ Hid (Below w.heap.size w wr ∧ GOwn 32 7 Pt.cl wr w.heap.size (.slice A3 n3 c3) ((e.nb.take j).map (hp f)))) (fun _ i _ => n - (intOf i).toNat)
  case atStart => exact ⟨none, 0, 0, rfl, 0, Nat.zero_le _, rfl, Lib.hid ⟨Below.refl _ _, by simpa using GOwn.nil 32 7 Pt.cl w w.heap.size⟩⟩
  case round =>
    obtain ⟨A3, c3, n3, rfl, j, hj, rfl, HR⟩ := hrel
    by_cases hlt : j < n
    · have hjl : j < e.nb.length := by rw [← HH.out.2.2.2.2]; exact hlt
      have hjz : j < (nbz e m).length := by rw [HH.out.2.2.2.1]; exact hjl
      have hjm : j < m.ls.length := by rw [HH.out.1.p.lsl]; exact hjl
      obtain ⟨bb, oo, rfl, hbb, hc0⟩ := (HH.out.2.2.1.below HR.out.1) j hjz
      have hat := nbz_at HH.out.1.p j hjz hjl hjm
      rw [hat] at hc0
      have hjz2 : j < (List.zip e.nb m.ls).length := by rw [List.length_zip]; omega
      have hlk0 := HH.out.1.p.lks _ (List.getElem_mem hjz2)
      rw [List.getElem_zip] at hlk0
      have hcl := (hok9 _ (List.getElem_mem hjl)).1.c
      have hHN : (e.nb.take (j + 1)).map (hp f) = (e.nb.take j).map (hp f) ++ [hp f e.nb[j]] := by
        rw [List.take_succ_eq_append_getElem hjl, List.map_append]; rfl
      have HPL := Lib.hid (show ((e.nb.take j).map (hp f)).length ≤ 1000 by rw [List.length_map, List.length_take]; omega)
      obtain ⟨x, hx⟩ : ∃ x, x = (e.nb[j]).1 := ⟨_, rfl⟩
      obtain ⟨l, hl⟩ : ∃ l, l = (e.nb[j]).2 := ⟨_, rfl⟩
      obtain ⟨z, hz⟩ : ∃ z, z = m.ls[j] := ⟨_, rfl⟩
      obtain ⟨t, ht⟩ : ∃ t, t = f l := ⟨_, rfl⟩
      rw [← hx, ← hz] at hc0
      have hlk : LkAt w z l := by rw [hz, hl]; exact hlk0.2
      have HNX : Hid ((e.nb.take (j + 1)).map (hp f) = (e.nb.take j).map (hp f) ++ [⟨2, 0, x, 0, 0, 0, t⟩]) := Lib.hid (by
        rw [hHN, ht, hl, hx]; rfl)
      rw [← hl] at hcl
      obtain ⟨k0, k1⟩ : wr.cell? ⟨bb, oo + j * 2, none⟩ = some (.int .i64 (x : Int)) ∧ wr.cell? ⟨bb, oo + j * 2 + 1, none⟩ = some (.pointer (some ⟨z, 0, none⟩)) := ⟨hc0 0 (by decide), hc0 1 (by decide)⟩
      have HB := Lib.hid HR.out.1
      have HG := Lib.hid HR.out.2
      generalize (e.nb.take j).map (hp f) = ps at HG HNX HPL
      have HW9 := Lib.hid (And.intro hlk hcl)
      clear hlk0 hat hc0 hHN hlk hcl hx hl hz hjz2 HR hjm hjz
      go_upto_region 5 with (fail)
      clear k0 k1 hbb
      have BA := (Below.refl wr.heap.size wr).alloc (Nat.le_refl _) (.cells #[.int .i64 (x : Int), .pointer (some ⟨z, 0, none⟩)] 121)
      have HX0 := Lib.hid (heap_alloc_new wr (.cells #[.int .i64 (x : Int), .pointer (some ⟨z, 0, none⟩)] 121))
      have HBX := Lib.hid (HB.out.trans (BA.mono HB.out.size))
      have HG2 := Lib.hid (HG.out.kept BA)
      have HOW : Hid (∀ k, (Value.slice A3 n3 c3).ownBlock = some k → w.heap.size ≤ k) := Lib.hid fun k e9 => (HG.out.lt e9).1
      have HX : Hid ((wr.alloc (.cells #[.int .i64 (x : Int), .pointer (some ⟨z, 0, none⟩)] 121)).heap[wr.heap.size]? = some (.cells #[.int .i64 (x : Int), .pointer (some ⟨z, 0, none⟩)] 121 (0, 0)) ∧ ¬ (Value.slice A3 n3 c3).ownBlock = some wr.heap.size) := Lib.hid ⟨HX0.out, fun e9 => by
        obtain ⟨-, cur, hg9⟩ := HG.out.lt e9
        exact absurd (Array.getElem?_eq_some_iff.1 hg9).1 (Nat.lt_irrefl _)⟩
      clear HG BA HX0
      have HG := HG2
      clear HG2
      generalize wr.alloc _ = wx at *
      generalize wr.heap.size = xb at *
      have HZ : Hid (∀ W, Fr (fun k => (Value.slice A3 n3 c3).ownBlock = some k) wx W → Calls Tryz.prog 59 #[.pointer (some ⟨z, 0, none⟩)] W fun en w' => en = .returned (.int .u16 (t : Int)) ∧ Below W.heap.size W w') := Lib.hid fun W F => by
        rw [ht]
        have h9 : LkAt wx z l := HW9.out.1.keep (HBX.out.block z HW9.out.1.lt)
        exact HGF.out W z l (F.row h9 fun e9 => by
          obtain ⟨-, cur, hg9⟩ := HG.out.lt e9
          exact row_ne h9 hg9 (by decide) rfl) HW9.out.2
      clear HW9 ht
      have HG2 := Lib.hid (HG.out.kept ((Below.refl wx.heap.size wx).drew))
      refine wp_region_noPanic ?_
      refine wp_region_held_drew (S := fun y : World => Fr (fun k => (Value.slice A3 n3 c3).ownBlock = some k) wx y) (by kernel_rfl) (Fr.of ((Below.refl _ wx).drew)) (fun hHeld => ?_)
      generalize wx.drew = wd at *
      clear HG
      have HG := HG2
      clear HG2
      refine wpAnyH_take (i := 0) (oi := ⟨some 17, .move (.tmp 5), 34, "engine.go:319", #[], none⟩) (v := .slice A3 n3 c3) rfl (by kernel_rfl) (by kernel_rfl) (by kernel_rfl) (fun _ _ _ h => h) (Or.inl ⟨by rfl, fun w hSw => by go_simp⟩) (by assumption) ?_
      try simp only [Act.put, List.setIfInBounds_toArray, List.set_cons_zero, List.set_cons_succ]
      refine wpAnyH_take (i := 1) (oi := ⟨some 18, .fieldAddr 121 (.tmp 7) 0, 0, "engine.go:319", #[], none⟩) (v := .pointer (some ⟨xb, 0, none⟩)) rfl (by kernel_rfl) (by kernel_rfl) (by kernel_rfl) (fun _ _ _ h => h) (Or.inl ⟨by rfl, fun w hSw => by go_simp⟩) (by assumption) ?_
      try simp only [Act.put, List.setIfInBounds_toArray, List.set_cons_zero, List.set_cons_succ]
      refine wpAnyH_take (i := 2) (oi := ⟨some 19, .load 3 (.tmp 18), 3, "engine.go:319", #[⟨1, .data⟩], none⟩) (v := .int .i64 (x : Int)) rfl (by kernel_rfl) (by kernel_rfl) (by kernel_rfl) (fun _ _ _ h => h) (Or.inl ⟨by rfl, fun w hSw => by obtain ⟨p0, p1, -⟩ := row2 (hSw.row HX.out.1 HX.out.2); go_simp⟩) (by assumption) ?_
      try simp only [Act.put, List.setIfInBounds_toArray, List.set_cons_zero, List.set_cons_succ]
      refine wpAnyH_take (i := 3) (oi := ⟨some 20, .move (.tmp 1), 118, "engine.go:319", #[], none⟩) (v := .func (.func 59) #[] #[]) rfl (by kernel_rfl) (by kernel_rfl) (by kernel_rfl) (fun _ _ _ h => h) (Or.inl ⟨by rfl, fun w hSw => by go_simp⟩) (by assumption) ?_
      try simp only [Act.put, List.setIfInBounds_toArray, List.set_cons_zero, List.set_cons_succ]
      refine wpAnyH_take (i := 4) (oi := ⟨some 21, .fieldAddr 121 (.tmp 7) 1, 0, "engine.go:319", #[], none⟩) (v := .pointer (some ⟨xb, 1, none⟩)) rfl (by kernel_rfl) (by kernel_rfl) (by kernel_rfl) (fun _ _ _ h => h) (Or.inl ⟨by rfl, fun w hSw => by go_simp⟩) (by assumption) ?_
      try simp only [Act.put, List.setIfInBounds_toArray, List.set_cons_zero, List.set_cons_succ]
      refine wpAnyH_take (i := 5) (oi := ⟨some 22, .load 96 (.tmp 21), 96, "engine.go:319", #[⟨4, .data⟩], none⟩) (v := .pointer (some ⟨z, 0, none⟩)) rfl (by kernel_rfl) (by kernel_rfl) (by kernel_rfl) (fun _ _ _ h => h) (Or.inl ⟨by rfl, fun w hSw => by obtain ⟨p0, p1, -⟩ := row2 (hSw.row HX.out.1 HX.out.2); go_simp⟩) (by assumption) ?_
      try simp only [Act.put, List.setIfInBounds_toArray, List.set_cons_zero, List.set_cons_succ]
      refine wpAnyH_ready (rs := [6]) (by kernel_rfl) (by simp) ?_
      refine (AllReadyH.cons (o := ⟨some 23, .call ⟨.value (.tmp 20), #[.tmp 22], #[96]⟩, 22, "engine.go:319", #[⟨3, .data⟩, ⟨5, .data⟩], none⟩) rfl (fun K hK => ?_) AllReadyH.nil)
      go_simp
      with_reducible refine (HZ.out wd hHeld).mono ?_
      rintro en wd2 ⟨rfl, B3⟩
      have HG2 := Lib.hid (HG.out.kept B3)
      refine hK.out _ _ (Fr.trans hHeld (Fr.of B3)) (fun hHeld2 => ?_)
      clear hK K hHeld
      have hHeld := hHeld2
      clear hHeld2
      try simp only [Act.put, List.setIfInBounds_toArray, List.set_cons_zero, List.set_cons_succ]
      clear HG B3
      generalize wd2 = wd at *
      have HG := HG2
      clear HG2
      refine wpAnyH_take (i := 7) (oi := ⟨some 24, .build 32 #[(0, .const (.int .u8 2)), (2, .tmp 19), (5, .tmp 23)], 32, "engine.go:319", #[⟨2, .data⟩, ⟨6, .data⟩], none⟩) (v := .agg #[.int .u8 2, .int .u64 0, .int .i64 (x : Int), .int .u32 0, .int .u8 0, .int .u16 0, .int .u16 (t : Int)]) rfl (by kernel_rfl) (by kernel_rfl) (by kernel_rfl) (fun _ _ _ h => h) (Or.inl ⟨by rfl, fun w hSw => by go_simp⟩) (by assumption) ?_
      try simp only [Act.put, List.setIfInBounds_toArray, List.set_cons_zero, List.set_cons_succ]
      refine wpAnyH_ready (rs := [8]) (by kernel_rfl) (by simp) ?_
      refine (AllReadyH.cons (o := ⟨some 25, .buildSlice 34 1 #[(0, .tmp 24)], 34, "engine.go:319", #[⟨7, .data⟩], none⟩) rfl (fun K hK => ?_) AllReadyH.nil)
      have BA := (Below.refl wd.heap.size wd).alloc (Nat.le_refl _) (.cells #[.int .u8 2, .int .u64 0, .int .i64 (x : Int), .int .u32 0, .int .u8 0, .int .u16 0, .int .u16 (t : Int)] 32)
      go_simp
      refine hK.out _ _ (Fr.trans hHeld (Fr.of BA)) (fun hHeld2 => ?_)
      clear hK K hHeld
      have hHeld := hHeld2
      clear hHeld2
      try simp only [Act.put, List.setIfInBounds_toArray, List.set_cons_zero, List.set_cons_succ]
      have hrow : (wd.alloc (.cells #[.int .u8 2, .int .u64 0, .int .i64 (x : Int), .int .u32 0, .int .u8 0, .int .u16 0, .int .u16 (t : Int)] 32)).heap[wd.heap.size]? = some (.cells (Pt.cl ⟨2, 0, x, 0, 0, 0, t⟩).toArray 32 (0, 0)) := heap_alloc_new wd (.cells #[.int .u8 2, .int .u64 0, .int .i64 (x : Int), .int .u32 0, .int .u8 0, .int .u16 0, .int .u16 (t : Int)] 32)
      have HGS := Lib.hid (gsl_row (k := 7) hrow)
      have HG2 := Lib.hid (HG.out.kept BA)
      clear BA HG hrow
      generalize wd.alloc _ = wd3 at *
      generalize wd.heap.size = zb at *
      generalize wd3 = wd at *
      have HG := HG2
      clear HG2
      refine wpAnyH_ready (rs := [9]) (by kernel_rfl) (by simp) ?_
      refine (AllReadyH.cons (o := ⟨some 26, .call ⟨.builtin .append, #[.tmp 17, .tmp 25], #[34, 34]⟩, 34, "engine.go:319", #[⟨0, .data⟩, ⟨8, .data⟩, ⟨6, .chain⟩], none⟩) rfl (fun K hK => ?_) AllReadyH.nil)
      obtain ⟨v5, wd2, hrun, O5, G5, L5⟩ := ptapp wd w.heap.size (.slice A3 n3 c3) ps [⟨2, 0, x, 0, 0, 0, t⟩] (some ⟨zb, 0, none⟩) 1 1 HG.out rfl HGS.out (fun h => by cases h) HPL.out (by decide) (Nat.le_trans HBX.out.size hHeld.size)
      refine Lib.wp_append_run _ (.tmp 17) (.tmp 25) 34 34 rfl _ _ rfl rfl _ _ hrun ?_
      obtain ⟨A5, c5, hv5, -⟩ := O5.form (fun _ => rfl)
      obtain ⟨N5, hN5⟩ : ∃ N5, N5 = (ps ++ [(⟨2, 0, x, 0, 0, 0, t⟩ : Pt)]).length := ⟨_, rfl⟩
      rw [← hN5] at hv5
      have HO := Lib.hid O5
      subst hv5
      have hF5 := hHeld.trans (Fr.grown (X := fun k => (Value.slice A3 n3 c3).ownBlock = some k) G5 (fun k e => e))
      refine hK.out _ _ (hF5) (fun hHeld2 => ?_)
      clear hK K hHeld
      have hHeld := hHeld2
      clear hHeld2
      try simp only [Act.put, List.setIfInBounds_toArray, List.set_cons_zero, List.set_cons_succ]
      clear hrun O5 G5 L5 hN5 HG HGS hF5
      generalize wd2 = wd at *
      refine wpAnyH_take (i := 10) (oi := ⟨some 5, .assign (.tmp 26), 34, "engine.go:319", #[⟨9, .data⟩, ⟨9, .chain⟩, ⟨0, .phase⟩, ⟨1, .phase⟩, ⟨2, .phase⟩, ⟨3, .phase⟩, ⟨4, .phase⟩, ⟨5, .phase⟩, ⟨6, .phase⟩, ⟨7, .phase⟩, ⟨8, .phase⟩, ⟨9, .phase⟩], none⟩) (v := .slice A5 N5 c5) rfl (by kernel_rfl) (by kernel_rfl) (by kernel_rfl) (fun _ _ _ h => h) (Or.inl ⟨by rfl, fun w hSw => by go_simp⟩) (by assumption) ?_
      try simp only [Act.put, List.setIfInBounds_toArray, List.set_cons_zero, List.set_cons_succ]
      refine wpAnyH_done (by kernel_rfl) ?_ _
      try unfold NoPanic
      have HD := Lib.hid hHeld
      clear hHeld
      have hB9 : Below w.heap.size w wd := HBX.out.trans (HD.out.below HBX.out.size (fun k e => HOW.out k e))
      have HB9 := Lib.hid hB9
      clear hB9
      go_wp2
      go_roundw
      case rel => exact ⟨A5, c5, N5, rfl, j + 1, by omega, by go_num, Lib.hid ⟨HB9.out, by rw [HNX.out]; exact HO.out⟩⟩
      case measure => simp [intOf]; omega
    · obtain rfl : j = n := by omega
      have hE : (e.nb.take j).map (hp f) = e.heard f := by rw [HH.out.2.2.2.2, List.take_length]; rfl
      rw [hE] at HR
      go_wp2
      go_ret
      exact ⟨_, rfl, HR.out.2, HR.out.1⟩
theorem says59 (W : World) (z : Nat) (l : Lk.L) (h : LkAt W z l) (hc : l.c < 65536) : Calls Tryz.prog 59 #[.pointer (some ⟨z, 0, none⟩)] W fun en w' => en = .returned (.int .u16 (Lk.recv l.c : Int)) ∧ Below W.heap.size W w' := by
  have HC := Lib.hid (Lk.receives_any W z l h hc)
  generalize Lk.recv l.c = t at *
  clear h hc
  go_enter Tryz.func59, Tryz.ntmps59
  go_wp2_with (go_at_call 60; (with_reducible refine HC.out.mono ?_); rintro en w' ⟨rfl, k, rfl⟩)
  go_ret
  exact ⟨rfl, (Below.refl _ W).grown (Lk.grown_drewN W k none) (Nat.le_refl _) (fun k e => by cases e)⟩
end Go.Proofs.YtjbogjbopgcbhaaGreatDoor.Eg
namespace Go.Proofs.YtjbogjbopgcbhaaGreatDoor.Eg
open Pre Ser Rts
open Go.Proofs.YtjbogjbopgcbhaaGreatDoor.Src (row1 row2 Mk SrcAt)
open Go.Proofs.YtjbogjbopgcbhaaGreatDoor.Lk (LkAt)
open Go.ChangeShapes Go.WideShapes Go.ChangeAt Go.RowKit
set_option maxRecDepth 8000
set_option linter.unusedVariables false
set_option linter.unusedSimpArgs false
open Go.Proofs.YtjbogjbopgcbhaaGreatDoor.Src (pv mv pA pN)
set_option linter.unusedSimpArgs false
def goneP (id : Nat) (p : Nat × Nat) : Pt := ⟨3, 0, id, p.1, p.2, 0, 65535⟩
def Eng.goneL (e : Eng) (l : List (Nat × Nat)) : List Pt := (l.filter fun p => !e.hasP p.1 p.2).map (goneP e.id)
def Eng.up1 (e : Eng) (L : List Rw) (r : Ro) : Pt := ⟨3, 0, e.id, r.a, r.n, r.s, if L.any (safeR r.a r.n r.s r.m) then r.m else 65535⟩
def Eng.upds (e : Eng) (L : List Rw) : List Pt := e.goneL e.lost ++ e.ch.map (e.up1 L)
theorem row_pt (W : World) (x : Pt) : GSl 7 Pt.cl (W.alloc (.cells (Pt.cl x).toArray 32)) (some ⟨W.heap.size, 0, none⟩) [x] := gsl_row (heap_alloc_new W (.cells (Pt.cl x).toArray 32))
set_option maxHeartbeats 8000000 in
theorem updates_any (w : World) (lo q : Nat) (e : Eng) (m : Mem) (h : EngAt lo w q e m) (hok : e.Ok) (hll : e.lost.length ≤ 400) (AR : Option Addr) (kr cr : Nat) (L : List Rw) (hk : kr = L.length) (hkl : kr ≤ 1000) (hsr : GSl 10 Rw.cl w AR L) :
    Calls Tryz.prog 61 #[.pointer (some ⟨q, 0, none⟩), .slice AR kr cr] w fun en w' => ∃ v', en = .returned v' ∧ GOwn 32 7 Pt.cl w' w.heap.size v' (e.upds L) ∧ Below w.heap.size w w' := by
  obtain ⟨A1, c1, hv1, -, hs1, -⟩ := gsl_of h.p.lost (fun _ => rfl)
  obtain ⟨A2, c2, hv2, -, hs2, -⟩ := gsl_of h.p.ch (fun _ => rfl)
  obtain ⟨id, hid⟩ : ∃ id, id = e.id := ⟨_, rfl⟩
  have hc0 := h.ec.c0
  have c12 := h.ec.c12
  have c5 := h.ec.c5
  have hql := h.lt
  rw [hv1] at c12
  rw [hv2] at c5
  rw [← hid] at hc0
  obtain ⟨n1, hn1⟩ : ∃ n1, n1 = e.lost.length := ⟨_, rfl⟩
  obtain ⟨n2, hn2⟩ : ∃ n2, n2 = e.ch.length := ⟨_, rfl⟩
  rw [← hn1] at c12
  rw [← hn2] at c5
  have hl1 : n1 ≤ 400 := by rw [hn1]; exact hll
  have hl2 : n2 ≤ 400 := by rw [hn2]; exact hok.chl
  have HS1 := Lib.hid (And.intro hs1 hn1)
  have HS2 := Lib.hid (And.intro hs2 hn2)
  have HID := Lib.hid hid
  have HOK := Lib.hid (And.intro hok.loo hok.cho)
  have HUP : Hid (∀ W, Below w.heap.size w W → ∀ a n s k : Nat, Calls Tryz.prog 105 #[.pointer (some ⟨q, 0, none⟩), .agg #[.int .u32 (a : Int), .int .u8 (n : Int)], .agg #[.int .u16 (s : Int), .int .u16 (k : Int)]] W fun en w' => en = .returned (.agg #[.int .u8 3, .int .u64 0, .int .i64 (id : Int), .int .u32 (a : Int), .int .u8 (n : Int), .int .u16 (s : Int), .int .u16 (k : Int)]) ∧ Below W.heap.size W w') := Lib.hid fun W B a n s k => update_any W q id a n s k (Nat.lt_of_lt_of_le hql B.size) (((Ser.bcell B).1 q 0 hql).trans hc0)
  have HUP0 : Hid (∀ W, Below w.heap.size w W → ∀ a n : Nat, Calls Tryz.prog 105 #[.pointer (some ⟨q, 0, none⟩), .agg #[.int .u32 (a : Int), .int .u8 (n : Int)], .agg #[.int .u16 0, .int .u16 65535]] W fun en w' => en = .returned (.agg #[.int .u8 3, .int .u64 0, .int .i64 (id : Int), .int .u32 (a : Int), .int .u8 (n : Int), .int .u16 0, .int .u16 65535]) ∧ Below W.heap.size W w') := Lib.hid fun W B a n => HUP.out W B a n 0 65535
  have HUPE : Hid (∀ W, Below w.heap.size w W → ∀ a n s : Nat, Calls Tryz.prog 105 #[.pointer (some ⟨q, 0, none⟩), .agg #[.int .u32 (a : Int), .int .u8 (n : Int)], .agg #[.int .u16 (s : Int), .int .u16 65535]] W fun en w' => en = .returned (.agg #[.int .u8 3, .int .u64 0, .int .i64 (id : Int), .int .u32 (a : Int), .int .u8 (n : Int), .int .u16 (s : Int), .int .u16 65535]) ∧ Below W.heap.size W w') := Lib.hid fun W B a n s => HUP.out W B a n s 65535
  have HHAS : Hid (∀ W, Below w.heap.size w W → ∀ a n : Nat, n < 256 → Calls Tryz.prog 100 #[.pointer (some ⟨q, 0, none⟩), .agg #[.int .u32 (a : Int), .int .u8 (n : Int)]] W fun en w' => en = .returned (.bool (e.hasP a n)) ∧ Below W.heap.size W w') := Lib.hid fun W B a n hn => has_any W lo q e m (h.step B) hok a n hn
  have HSAFE : Hid (∀ W, Below w.heap.size w W → ∀ a n s k : Nat, Calls Tryz.prog 106 #[.agg #[.int .u32 (a : Int), .int .u8 (n : Int)], .agg #[.int .u16 (s : Int), .int .u16 (k : Int)], .slice AR kr cr] W fun en w' => en = .returned (.bool (L.any (safeR a n s k))) ∧ Below W.heap.size W w') := Lib.hid fun W B a n s k => isSafe_any W a n s k AR kr cr L hk hkl (hsr.below B)
  have HC5 := Lib.hid c5
  clear h hok hll hc0 hs1 hs2 hv1 hv2 hid hk hkl hsr c5 hn1 hn2
  go_enter Tryz.func61, Tryz.ntmps61
  go_wp2
  go_loopw [5, 17] (fun v i wr => ∃ A3 c3 n3, v = .slice A3 n3 c3 ∧ ∃ j : Nat, j ≤ n1 ∧ i = .int .i64 j ∧ Hid (Below w.heap.size w wr ∧ GOwn 32 7 Pt.cl wr w.heap.size (.slice A3 n3 c3) (e.goneL (e.lost.take j)))) (fun _ i _ => n1 - (intOf i).toNat)
  case atStart => exact ⟨none, 0, 0, rfl, 0, Nat.zero_le _, rfl, Lib.hid ⟨Below.refl _ _, by simpa [Eng.goneL] using GOwn.nil 32 7 Pt.cl w w.heap.size⟩⟩
  case round =>
    obtain ⟨A3, c3, n3, rfl, j, hj, rfl, HR⟩ := hrel
    by_cases hlt : j < n1
    · have hjl : j < e.lost.length := by rw [← HS1.out.2]; exact hlt
      obtain ⟨bb, oo, rfl, hbb, hc0⟩ := (HS1.out.1.below HR.out.1) j hjl
      have hlo := HOK.out.1 _ (List.getElem_mem hjl)
      have hHN : e.goneL (e.lost.take (j + 1)) = e.goneL (e.lost.take j) ++ (if e.hasP (e.lost[j]).1 (e.lost[j]).2 then [] else [goneP e.id e.lost[j]]) := by
        rw [List.take_succ_eq_append_getElem hjl]
        unfold Eng.goneL
        rw [List.filter_append, List.map_append]
        congr 1
        cases hh : e.hasP (e.lost[j]).1 (e.lost[j]).2 <;> simp [hh]
      have HPL := Lib.hid (show (e.goneL (e.lost.take j)).length ≤ 1000 by
        unfold Eng.goneL
        rw [List.length_map]
        have h1 := List.length_filter_le (fun p => !e.hasP p.1 p.2) (e.lost.take j)
        rw [List.length_take] at h1
        omega)
      have HB := Lib.hid HR.out.1
      have HG0 := Lib.hid HR.out.2
      generalize e.goneL (e.lost.take j) = ps at hHN HPL HG0
      generalize e.lost[j] = p at hHN hlo hc0
      obtain ⟨a, n⟩ := p
      simp only at hHN hlo hc0
      obtain ⟨k0, k1⟩ : wr.cell? ⟨bb, oo + j * 2, none⟩ = some (.int .u32 (a : Int)) ∧ wr.cell? ⟨bb, oo + j * 2 + 1, none⟩ = some (.int .u8 (n : Int)) := ⟨hc0 0 (by decide), hc0 1 (by decide)⟩
      clear HR hc0
      have HLO := Lib.hid hlo
      have HHN := Lib.hid hHN
      clear hlo hHN
      go_upto_region 5 with (fail)
      clear k0 k1 hbb
      have BA := (Below.refl wr.heap.size wr).alloc (Nat.le_refl _) (.cells #[.int .u32 (a : Int), .int .u8 (n : Int)] 30)
      have HX := Lib.hid (heap_alloc_new wr (.cells #[.int .u32 (a : Int), .int .u8 (n : Int)] 30))
      have HBX := Lib.hid (HB.out.trans (BA.mono HB.out.size))
      have HG := Lib.hid (HG0.out.kept BA)
      clear HG0 BA HB
      generalize wr.alloc _ = wx at *
      generalize wr.heap.size = xb at *
      obtain ⟨x0, x1, -⟩ := row2 HX.out
      have hxl := (Array.getElem?_eq_some_iff.1 HX.out).1
      have HCH := Lib.hid (HHAS.out wx HBX.out a n HLO.out.2)
      cases hh : e.hasP a n with
      | true =>
        rw [hh] at HCH
        have HHN2 : Hid (e.goneL (e.lost.take (j + 1)) = ps) := Lib.hid (by rw [HHN.out, hh]; simp)
        clear hh HHN
        go_wp2_with (go_at_call 100; (with_reducible refine HCH.out.mono ?_); rintro en w4 ⟨rfl, hB⟩; have H4 := Lib.hid (And.intro (HBX.out.trans (hB.mono HBX.out.size)) (HG.out.kept hB)); clear hB)
        go_roundw
        case rel => exact ⟨_, _, _, rfl, j + 1, by omega, by go_num, Lib.hid ⟨H4.out.1, by rw [HHN2.out]; exact H4.out.2⟩⟩
        case measure => simp [intOf]; omega
      | false =>
        rw [hh] at HCH
        have HHN2 : Hid (e.goneL (e.lost.take (j + 1)) = ps ++ [⟨3, 0, id, a, n, 0, 65535⟩]) := Lib.hid (by rw [HHN.out, hh, HID.out]; rfl)
        clear hh HHN
        go_wp2_with (first
          | (go_at_call 100; (with_reducible refine HCH.out.mono ?_); rintro en w4 ⟨rfl, hB⟩; have H4 := Lib.hid (And.intro (HBX.out.trans (hB.mono HBX.out.size)) (And.intro (HG.out.kept hB) (brow hB HX.out))); obtain ⟨x0, x1, -⟩ := row2 (brow hB HX.out); have hxl := (Array.getElem?_eq_some_iff.1 (brow hB HX.out)).1; clear hB HG)
          | (go_at_call 105; (with_reducible refine (HUP0.out _ H4.out.1 a n).mono ?_); rintro en w5 ⟨rfl, hB⟩; have hb5 := H4.out.1.trans (hB.mono H4.out.1.size); have hb6 := (Below.refl w5.heap.size w5).alloc (Nat.le_refl _) (.cells #[.int .u8 3, .int .u64 0, .int .i64 (id : Int), .int .u32 (a : Int), .int .u8 (n : Int), .int .u16 0, .int .u16 65535] 32); have HG := Lib.hid ((H4.out.2.1.kept hB).kept hb6); have HGS := Lib.hid (row_pt w5 ⟨3, 0, id, a, n, 0, 65535⟩); have HBX := Lib.hid (hb5.trans (hb6.mono hb5.size)); have HSZ := Lib.hid (HBX.out.size); clear hB hb5 hb6 H4)
          | (at_builtin; obtain ⟨v5, w5, hrun, O5, G5, -⟩ := ptapp _ w.heap.size (.slice A3 n3 c3) ps [⟨3, 0, id, a, n, 0, 65535⟩] _ 1 1 HG.out rfl HGS.out (fun h => by cases h) HPL.out (by decide) HSZ.out; refine Lib.wpList_append_run _ rfl (.tmp 25) (.tmp 30) 34 34 rfl _ _ rfl rfl _ _ hrun ?_; obtain ⟨A5, c5, hv5, -⟩ := O5.form (fun _ => rfl); obtain ⟨N5, hN5⟩ : ∃ N5, N5 = (ps ++ [(⟨3, 0, id, a, n, 0, 65535⟩ : Pt)]).length := ⟨_, rfl⟩; rw [← hN5] at hv5; have HO := Lib.hid O5; have HBF := Lib.hid (HBX.out.grown G5 HBX.out.size (fun k e9 => (HG.out.lt e9).1)); subst hv5; clear hrun O5 G5 hN5))
        go_roundw
        case rel => exact ⟨A5, c5, N5, rfl, j + 1, by omega, by go_num, Lib.hid ⟨HBF.out, by rw [HHN2.out]; exact HO.out⟩⟩
        case measure => simp [intOf]; omega
    · obtain rfl : j = n1 := by omega
      have hE : e.goneL (e.lost.take j) = e.goneL e.lost := by rw [HS1.out.2, List.take_length]
      rw [hE] at HR
      have hql2 := Nat.lt_of_lt_of_le hql HR.out.1.size
      have c5' := ((Ser.bcell HR.out.1).1 q 5 hql).trans HC5.out
      go_wp2
      clear c5'
      have HGL := Lib.hid (show (e.goneL e.lost).length ≤ 400 by
        unfold Eng.goneL
        rw [List.length_map]
        have h1 := List.length_filter_le (fun p => !e.hasP p.1 p.2) e.lost
        have h2 := HS1.out.2
        omega)
      have HR0 := HR
      clear HR
      generalize hps0 : e.goneL e.lost = ps0 at HR0 HGL
      have HPS0 := Lib.hid hps0
      clear hps0
      go_loopw [5, 38] (fun v i wr => ∃ A3 c3 n3, v = .slice A3 n3 c3 ∧ ∃ j : Nat, j ≤ n2 ∧ i = .int .i64 j ∧ Hid (Below w.heap.size w wr ∧ GOwn 32 7 Pt.cl wr w.heap.size (.slice A3 n3 c3) (ps0 ++ (e.ch.take j).map (e.up1 L)))) (fun _ i _ => n2 - (intOf i).toNat)
      case atStart => exact ⟨_, _, _, rfl, 0, Nat.zero_le _, rfl, Lib.hid ⟨HR0.out.1, by simpa using HR0.out.2⟩⟩
      case round =>
        obtain ⟨A3, c3, n3, rfl, k, hk, rfl, HR⟩ := hrel
        clear HR0
        by_cases hlt2 : k < n2
        · have hjl : k < e.ch.length := by rw [← HS2.out.2]; exact hlt2
          obtain ⟨bb, oo, rfl, hbb, hc0⟩ := (HS2.out.1.below HR.out.1) k hjl
          have hra := RoAt.of hc0
          have hHN : (e.ch.take (k + 1)).map (e.up1 L) = (e.ch.take k).map (e.up1 L) ++ [e.up1 L e.ch[k]] := by
            rw [List.take_succ_eq_append_getElem hjl, List.map_append]; rfl
          have HPL := Lib.hid (show (ps0 ++ (e.ch.take k).map (e.up1 L)).length ≤ 1000 by
            rw [List.length_append, List.length_map, List.length_take]
            have := HGL.out
            omega)
          have HB := Lib.hid HR.out.1
          have HG0 := Lib.hid HR.out.2
          have HAS : Hid (ps0 ++ (e.ch.take (k + 1)).map (e.up1 L) = (ps0 ++ (e.ch.take k).map (e.up1 L)) ++ [⟨3, 0, id, (e.ch[k]).a, (e.ch[k]).n, (e.ch[k]).s, if L.any (safeR (e.ch[k]).a (e.ch[k]).n (e.ch[k]).s (e.ch[k]).m) then (e.ch[k]).m else 65535⟩]) := Lib.hid (by rw [hHN, ← List.append_assoc, HID.out]; rfl)
          generalize ps0 ++ (e.ch.take k).map (e.up1 L) = ps at HAS HPL HG0
          generalize e.ch[k] = r at HAS hra
          obtain ⟨a, n, v, mm, s⟩ := r
          simp only at HAS
          obtain ⟨k0, k1, k2, k3, k4⟩ := hra
          simp only at k0 k1 k2 k3 k4
          clear HR hc0 hHN
          have HMK := Lib.hid (fun W => markOf_any W ⟨a, n, v, mm, s⟩)
          simp only at HMK
          go_upto_region 11 with (fail)
          clear k0 k1 k2 k3 k4 hbb
          have BA := (Below.refl wr.heap.size wr).alloc (Nat.le_refl _) (.cells #[.int .u32 (a : Int), .int .u8 (n : Int), .int .i64 (v : Int), .int .u16 (mm : Int), .int .u16 (s : Int)] 40)
          have HX := Lib.hid (heap_alloc_new wr (.cells #[.int .u32 (a : Int), .int .u8 (n : Int), .int .i64 (v : Int), .int .u16 (mm : Int), .int .u16 (s : Int)] 40))
          have HBX0 := Lib.hid (HB.out.trans (BA.mono HB.out.size))
          have HG1 := Lib.hid (HG0.out.kept BA)
          clear HG0 BA HB
          generalize wr.alloc _ = wx at *
          generalize wr.heap.size = xb at *
          obtain ⟨x0, x1, x2, x3, x4, -⟩ := row5' HX.out
          have hxl := (Array.getElem?_eq_some_iff.1 HX.out).1
          go_upto_region 12 with (go_at_call 88; (with_reducible refine (HMK.out _).mono ?_); rintro en w4 ⟨rfl, hB⟩; have H4 := Lib.hid (And.intro (HBX0.out.trans (hB.mono HBX0.out.size)) (And.intro (HG1.out.kept hB) (brow hB HX.out))); clear hB HG1 HBX0)
          clear x0 x1 x2 x3 x4 hxl HX
          have BA := (Below.refl w4.heap.size w4).alloc (Nat.le_refl _) (.cells #[.int .u16 (s : Int), .int .u16 (mm : Int)] 48)
          have HY := Lib.hid (heap_alloc_new w4 (.cells #[.int .u16 (s : Int), .int .u16 (mm : Int)] 48))
          have HB5 := Lib.hid (H4.out.1.trans (BA.mono H4.out.1.size))
          have HG5 := Lib.hid (H4.out.2.1.kept BA)
          have HX := Lib.hid (brow BA H4.out.2.2)
          have HYB := Lib.hid (show w.heap.size ≤ w4.heap.size from H4.out.1.size)
          have HYO : Hid (∀ b9, (Value.slice A3 n3 c3).ownBlock = some b9 → b9 ≠ w4.heap.size) := Lib.hid fun b9 e9 h9 => by
            obtain ⟨-, cur, hg9⟩ := H4.out.2.1.lt e9
            rw [h9] at hg9
            exact absurd (Array.getElem?_eq_some_iff.1 hg9).1 (Nat.lt_irrefl _)
          clear BA H4
          generalize w4.alloc _ = wy at *
          generalize w4.heap.size = yb at *
          obtain ⟨x0, x1, x2, x3, x4, -⟩ := row5' HX.out
          have hxl := (Array.getElem?_eq_some_iff.1 HX.out).1
          obtain ⟨y0, y1, -⟩ := row2 HY.out
          have hyl := (Array.getElem?_eq_some_iff.1 HY.out).1
          have HSA := Lib.hid (HSAFE.out wy HB5.out a n s mm)
          cases hs : L.any (safeR a n s mm) with
          | true =>
            rw [hs] at HSA
            have HAS2 : Hid (ps0 ++ (e.ch.take (k + 1)).map (e.up1 L) = ps ++ [⟨3, 0, id, a, n, s, mm⟩]) := Lib.hid (by rw [HAS.out, hs]; rfl)
            clear hs HAS
            go_wp2_with (first
              | (go_at_call 106; (with_reducible refine HSA.out.mono ?_); rintro en w6 ⟨rfl, hB⟩; have H6 := Lib.hid (And.intro (HB5.out.trans (hB.mono HB5.out.size)) (HG5.out.kept hB)); obtain ⟨x0, x1, x2, x3, x4, -⟩ := row5' (brow hB HX.out); have hxl := (Array.getElem?_eq_some_iff.1 (brow hB HX.out)).1; obtain ⟨y0, y1, -⟩ := row2 (brow hB HY.out); have hyl := (Array.getElem?_eq_some_iff.1 (brow hB HY.out)).1; clear hB HG5 HB5)
              | (go_at_call 105; (with_reducible refine (HUP.out _ H6.out.1 a n s mm).mono ?_); rintro en w5 ⟨rfl, hB⟩; have hb5 := H6.out.1.trans (hB.mono H6.out.1.size); have hb6 := (Below.refl w5.heap.size w5).alloc (Nat.le_refl _) (.cells #[.int .u8 3, .int .u64 0, .int .i64 (id : Int), .int .u32 (a : Int), .int .u8 (n : Int), .int .u16 (s : Int), .int .u16 (mm : Int)] 32); have HG := Lib.hid ((H6.out.2.kept hB).kept hb6); have HGS := Lib.hid (row_pt w5 ⟨3, 0, id, a, n, s, mm⟩); have HBX := Lib.hid (hb5.trans (hb6.mono hb5.size)); have HSZ := Lib.hid (HBX.out.size); clear hB hb5 hb6 H6)
              | (at_builtin; obtain ⟨v5, w5, hrun, O5, G5, -⟩ := ptapp _ w.heap.size (.slice A3 n3 c3) ps [⟨3, 0, id, a, n, s, mm⟩] _ 1 1 HG.out rfl HGS.out (fun h => by cases h) HPL.out (by decide) HSZ.out; refine Lib.wpList_append_run _ rfl (.tmp 51) (.tmp 57) 34 34 rfl _ _ rfl rfl _ _ hrun ?_; obtain ⟨A5, c5, hv5, -⟩ := O5.form (fun _ => rfl); obtain ⟨N5, hN5⟩ : ∃ N5, N5 = (ps ++ [(⟨3, 0, id, a, n, s, mm⟩ : Pt)]).length := ⟨_, rfl⟩; rw [← hN5] at hv5; have HO := Lib.hid O5; have HBF := Lib.hid (HBX.out.grown G5 HBX.out.size (fun k e9 => (HG.out.lt e9).1)); subst hv5; clear hrun O5 G5 hN5))
            go_roundw
            case rel => exact ⟨A5, c5, N5, rfl, k + 1, by omega, by go_num, Lib.hid ⟨HBF.out, by rw [HAS2.out]; exact HO.out⟩⟩
            case measure => simp [intOf]; omega
          | false =>
            rw [hs] at HSA
            have HAS2 : Hid (ps0 ++ (e.ch.take (k + 1)).map (e.up1 L) = ps ++ [⟨3, 0, id, a, n, s, 65535⟩]) := Lib.hid (by rw [HAS.out, hs]; rfl)
            clear hs HAS
            go_upto_region 14 with (go_at_call 106; (with_reducible refine HSA.out.mono ?_); rintro en w6 ⟨rfl, hB⟩; have H6 := Lib.hid (And.intro (HB5.out.trans (hB.mono HB5.out.size)) (HG5.out.kept hB)); have HX6 := Lib.hid (brow hB HX.out); have HY6 := Lib.hid (brow hB HY.out); obtain ⟨y0, y1, yf⟩ := row2 (brow hB HY.out); have hyl := (Array.getElem?_eq_some_iff.1 (brow hB HY.out)).1; clear hB HG5 HB5 HX HY)
            have F7 : Fr (fun k9 => k9 = yb) w6 (w6.setCell ⟨yb, 1, none⟩ (.int .u16 65535)) := Fr.grown (grown_setCell w6 yb 1 _) (fun k e => (Option.some.inj e).symm)
            have HY7 := Lib.hid (heap_setCell_same w6 yb 1 _ 48 (.int .u16 65535) HY6.out)
            have HX7 := Lib.hid (F7.row HX6.out (row_ne HX6.out HY6.out (by decide)))
            have HB7 := Lib.hid (H6.out.1.trans (F7.below H6.out.1.size (fun k e9 => by rw [e9]; exact HYB.out)))
            have HG7 := Lib.hid (gfr H6.out.2 F7 (fun b9 e9 => HYO.out b9 e9))
            clear F7 H6 HX6 HY6
            generalize w6.setCell _ _ = w7 at *
            obtain ⟨x0, x1, x2, x3, x4, -⟩ := row5' HX7.out
            have hxl := (Array.getElem?_eq_some_iff.1 HX7.out).1
            have HY8 : Hid (w7.heap[yb]? = some (.cells #[.int .u16 (s : Int), .int .u16 65535] 48 (0, 0))) := Lib.hid (by have := HY7.out; simpa using this)
            obtain ⟨y0, y1, -⟩ := row2 HY8.out
            have hyl := (Array.getElem?_eq_some_iff.1 HY8.out).1
            go_wp2_with (first
              | (go_at_call 105; (with_reducible refine (HUPE.out _ HB7.out a n s).mono ?_); rintro en w5 ⟨rfl, hB⟩; have hb5 := HB7.out.trans (hB.mono HB7.out.size); have hb6 := (Below.refl w5.heap.size w5).alloc (Nat.le_refl _) (.cells #[.int .u8 3, .int .u64 0, .int .i64 (id : Int), .int .u32 (a : Int), .int .u8 (n : Int), .int .u16 (s : Int), .int .u16 65535] 32); have HG := Lib.hid ((HG7.out.kept hB).kept hb6); have HGS := Lib.hid (row_pt w5 ⟨3, 0, id, a, n, s, 65535⟩); have HBX := Lib.hid (hb5.trans (hb6.mono hb5.size)); have HSZ := Lib.hid (HBX.out.size); clear hB hb5 hb6 HG7 HB7)
              | (at_builtin; obtain ⟨v5, w5, hrun, O5, G5, -⟩ := ptapp _ w.heap.size (.slice A3 n3 c3) ps [⟨3, 0, id, a, n, s, 65535⟩] _ 1 1 HG.out rfl HGS.out (fun h => by cases h) HPL.out (by decide) HSZ.out; refine Lib.wpList_append_run _ rfl (.tmp 51) (.tmp 57) 34 34 rfl _ _ rfl rfl _ _ hrun ?_; obtain ⟨A5, c5, hv5, -⟩ := O5.form (fun _ => rfl); obtain ⟨N5, hN5⟩ : ∃ N5, N5 = (ps ++ [(⟨3, 0, id, a, n, s, 65535⟩ : Pt)]).length := ⟨_, rfl⟩; rw [← hN5] at hv5; have HO := Lib.hid O5; have HBF := Lib.hid (HBX.out.grown G5 HBX.out.size (fun k e9 => (HG.out.lt e9).1)); subst hv5; clear hrun O5 G5 hN5))
            go_roundw
            case rel => exact ⟨A5, c5, N5, rfl, k + 1, by omega, by go_num, Lib.hid ⟨HBF.out, by rw [HAS2.out]; exact HO.out⟩⟩
            case measure => simp [intOf]; omega
        · obtain rfl : k = n2 := by omega
          have hE : ps0 ++ (e.ch.take k).map (e.up1 L) = e.upds L := by
            rw [HS2.out.2, List.take_length, ← HPS0.out]; rfl
          rw [hE] at HR
          go_wp2
          go_ret
          exact ⟨_, rfl, HR.out.2, HR.out.1⟩
end Go.Proofs.YtjbogjbopgcbhaaGreatDoor.Eg
namespace Go.Proofs.YtjbogjbopgcbhaaGreatDoor.Eg
open Pre Ser Rts
open Go.Proofs.YtjbogjbopgcbhaaGreatDoor.Src (row1 row2 Mk SrcAt)
open Go.Proofs.YtjbogjbopgcbhaaGreatDoor.Lk (LkAt)
open Go.ChangeShapes Go.WideShapes Go.ChangeAt Go.RowKit
set_option maxRecDepth 8000
set_option linter.unusedVariables false
set_option linter.unusedSimpArgs false
open Go.Proofs.YtjbogjbopgcbhaaGreatDoor.Src (pv mv pA pN)
set_option linter.unusedSimpArgs false
structure TI (lo : Nat) (w0 : World) (q : Nat) (m0 : Mem) (e : Eng) (A : Option Addr) (n c : Nat) (l : List Pt) (W : World) : Prop where
  ex : ∃ m, EngAt lo W q e m ∧ (∀ k, m.X q k → m0.X q k) ∧ m.ls = m0.ls
  f : Ef lo (m0.X q) w0 W
  own : GOwn 32 7 Pt.cl W w0.heap.size (.slice A n c) l
  h0 : ∀ k, m0.X q k → k < w0.heap.size
  l0 : lo ≤ w0.heap.size
  ok : e.Ok
theorem TI.step {lo : Nat} {w0 : World} {q : Nat} {m0 : Mem} {e : Eng} {A : Option Addr} {n c : Nat} {l : List Pt} {W W' : World} (h : TI lo w0 q m0 e A n c l W) (B : Below W.heap.size W W') : TI lo w0 q m0 e A n c l W' := by
  obtain ⟨m, hE, hX, hl⟩ := h.ex
  exact ⟨⟨m, hE.step B, hX, hl⟩, Ef.trans h.f (Ef.of (X := fun _ => False) B hE.los) (fun k hk => hk.elim), h.own.kept B, h.h0, h.l0, h.ok⟩
theorem TI.fr {lo : Nat} {w0 : World} {q : Nat} {m0 : Mem} {e : Eng} {A : Option Addr} {n c : Nat} {l : List Pt} {W W' : World} {Y : Nat → Prop} (h : TI lo w0 q m0 e A n c l W) (F : Fr Y W W') (hY : ∀ k, Y k → w0.heap.size ≤ k ∧ (∃ x t, W.heap[k]? = some (.cells x t (0, 0))) ∧ ¬ (Value.slice A n c).ownBlock = some k) : TI lo w0 q m0 e A n c l W' := by
  obtain ⟨m, hE, hX, hl⟩ := h.ex
  refine ⟨⟨m, hE.fr F (fun k hk e9 => ?_) (fun b es cl hb e9 => ?_) (fun e9 => ?_), hX, hl⟩, Ef.trans h.f (Ef.frm (X := Y) F hE.los (fun k hk => Nat.le_trans h.l0 (hY k hk).1) (fun k h => h)) (fun k hk => Or.inr (hY k hk).1), gfr h.own F (fun b e9 hb => (hY b hb).2.2 e9), h.h0, h.l0, h.ok⟩
  · have h1 := h.h0 k (hX k hk)
    have h2 := (hY k e9).1
    omega
  · obtain ⟨x, t, h1⟩ := (hY b e9).2.1
    rw [h1] at hb; cases hb
  · have h1 := (hY 0 e9).1
    have h2 := h.l0
    have h3 := hE.p.lo0
    omega
theorem TI.size {lo : Nat} {w0 : World} {q : Nat} {m0 : Mem} {e : Eng} {A : Option Addr} {n c : Nat} {l : List Pt} {W : World} (h : TI lo w0 q m0 e A n c l W) : w0.heap.size ≤ W.heap.size := h.f.below_size
theorem TI.app {lo : Nat} {w0 : World} {q : Nat} {m0 : Mem} {e : Eng} {A : Option Addr} {n c : Nat} {l : List Pt} {W : World} (h : TI lo w0 q m0 e A n c l W) {ys : List Pt} {A2 : Option Addr} {m2 c2 : Nat} (hm : m2 = ys.length) (hs : GSl 7 Pt.cl W A2 ys) (hA : A2 = none → c2 = 0) (hl : l.length ≤ 1000) (hm2 : m2 ≤ 1000) :
    ∃ A' n' c' W', (Builtin.append_ #[34, 34] 34 #[.slice A n c, .slice A2 m2 c2]).run Tryz.prog W = .ok (.slice A' n' c') W' ∧ TI lo w0 q m0 e A' n' c' (l ++ ys) W' := by
  obtain ⟨m, hE, hX, hls⟩ := h.ex
  obtain ⟨v', W', hrun, O, G, -⟩ := ptapp W w0.heap.size (.slice A n c) l ys A2 m2 c2 h.own hm hs hA hl hm2 h.size
  obtain ⟨A', c', hv, -⟩ := O.form (fun _ => rfl)
  subst hv
  have F : Fr (fun k => (Value.slice A n c).ownBlock = some k) W W' := Fr.grown G (fun k e => e)
  refine ⟨_, _, _, _, hrun, ⟨⟨m, hE.fr F (fun k hk e9 => ?_) (fun b es cl hb e9 => ?_) (fun e9 => ?_), hX, hls⟩, Ef.trans h.f (Ef.frm (X := fun k => (Value.slice A n c).ownBlock = some k) F hE.los (fun k hk => Nat.le_trans h.l0 (h.own.lt hk).1) (fun k h => h)) (fun k hk => Or.inr (h.own.lt hk).1), O, h.h0, h.l0, h.ok⟩⟩
  · have h1 := h.h0 k (hX k hk)
    have h2 := (h.own.lt e9).1
    omega
  · obtain ⟨-, cur, h1⟩ := h.own.lt e9
    rw [h1] at hb; cases hb
  · have h1 := (h.own.lt e9).1
    have h2 := h.l0
    have h3 := hE.p.lo0
    omega
theorem TI.cell {lo : Nat} {w0 : World} {q : Nat} {m0 : Mem} {e e' : Eng} {A : Option Addr} {n c : Nat} {l : List Pt} {W : World} (h : TI lo w0 q m0 e A n c l W) (i : Nat) (v : Value) (hp : ∀ m, EngP lo W e m → ∃ m', EngP lo W e' m' ∧ (∀ k, m'.X q k → m.X q k) ∧ m'.ls = m.ls ∧ (e.row m).setIfInBounds i v = e'.row m') (ok : e'.Ok) : TI lo w0 q m0 e' A n c l (W.setCell ⟨q, i, none⟩ v) := by
  obtain ⟨m, hE, hX, hl⟩ := h.ex
  obtain ⟨m', h1, h2, h3, h4⟩ := hp m hE.p
  have F : Fr (fun k => k = q) W (W.setCell ⟨q, i, none⟩ v) := Fr.grown (grown_setCell W q i v) (fun k e => (Option.some.inj e).symm)
  have hq := hX q (Or.inl rfl)
  refine ⟨⟨m', EngAt.put hE.row hE.le h1 i v h4, fun k hk => hX k (h2 k hk), h3.trans hl⟩, Ef.trans h.f (Ef.frm (X := m0.X q) F hE.los (fun k hk => hk ▸ hE.le) (fun k hk => hk ▸ hq)) (fun k hk => Or.inl hk), gfr h.own F (fun b e9 e8 => ?_), h.h0, h.l0, ok⟩
  have h5 := h.h0 q hq
  have h6 := (h.own.lt e9).1
  omega
theorem Eng.Ok.told {e e' : Eng} (h : e.Ok) (he : e' = { e with he := e'.he, due := e'.due, lost := e'.lost, rq := e'.rq }) (h1 : e'.he ≤ 1000000) (h2 : e'.lost = e.lost ∨ e'.lost = []) (h3 : e'.rq = e.rq ∨ e'.rq = []) : e'.Ok := by
  have hc := h.cts
  rw [he]
  refine ⟨h.idl, h.nbu, h.nbl, h.nbk, h.ri, h.lok, h.lle, h.chu, h.cho, h.chl, h.owo, h.owl, ?_, ?_, ?_, ?_, h.cl, hc.1, hc.2.1, hc.2.2.1, hc.2.2.2.1, h1⟩
  · show GUp ppk e'.lost
    rcases h2 with h2 | h2 <;> rw [h2]
    · exact h.lou
    · exact List.Pairwise.nil
  · show ∀ p ∈ e'.lost, _
    rcases h2 with h2 | h2 <;> rw [h2]
    · exact h.loo
    · exact fun p hp => (by cases hp)
  · show e'.lost.length ≤ 800
    rcases h2 with h2 | h2 <;> rw [h2]
    · exact h.lol
    · exact Nat.zero_le _
  · show e'.rq.length ≤ 16
    rcases h3 with h3 | h3 <;> rw [h3]
    · exact h.rql
    · exact Nat.zero_le _
theorem fr7 (w : World) (b : Nat) (y0 y1 y2 y3 y4 y5 y6 : Value) : Fr (fun k => k = b) w (((((((w.setCell ⟨b, 0, none⟩ y0).setCell ⟨b, 1, none⟩ y1).setCell ⟨b, 2, none⟩ y2).setCell ⟨b, 3, none⟩ y3).setCell ⟨b, 4, none⟩ y4).setCell ⟨b, 5, none⟩ y5).setCell ⟨b, 6, none⟩ y6) :=
  Fr.grown (b := some b) (((((((grown_setCell w b 0 y0).trans (grown_setCell _ b 1 y1)).trans (grown_setCell _ b 2 y2)).trans (grown_setCell _ b 3 y3)).trans (grown_setCell _ b 4 y4)).trans (grown_setCell _ b 5 y5)).trans (grown_setCell _ b 6 y6)) (fun k e => (Option.some.inj e).symm)
set_option maxHeartbeats 400000 in
theorem hello_ti {lo : Nat} {w0 : World} {q : Nat} {m0 : Mem} {e : Eng} {A : Option Addr} {n c : Nat} {l : List Pt} {W : World} (h : TI lo w0 q m0 e A n c l W) (hhe : e.he ≤ 900000) :
    Calls Tryz.prog 57 #[.pointer (some ⟨q, 10, none⟩)] W fun en w' => en = .returned (.agg #[.int .u8 1, .int .u64 (e.he : Int), .int .i64 0, .int .u32 0, .int .u8 0, .int .u16 0, .int .u16 0]) ∧ TI lo w0 q m0 { e with he := e.he + 1 } A n c l w' := by
  have BA := (Below.refl W.heap.size W).alloc (Nat.le_refl _) (.cells #[.int .u8 0, .int .u64 0, .int .i64 0, .int .u32 0, .int .u8 0, .int .u16 0, .int .u16 0] 32)
  have r0 := heap_alloc_new W (.cells #[.int .u8 0, .int .u64 0, .int .i64 0, .int .u32 0, .int .u8 0, .int .u16 0, .int .u16 0] 32)
  have h1 := h.step BA
  have h2 := h1.cell (e' := { e with he := e.he + 1 }) 10 (.int .u64 ((e.he : Int) + 1)) (fun m hp => ⟨m, hp.nums rfl, fun k hk => hk, rfl, rfl⟩) (h.ok.told rfl (by show e.he + 1 ≤ _; omega) (Or.inl rfl) (Or.inl rfl))
  obtain ⟨m, hE, hX, -⟩ := h1.ex
  have c10 := hE.ec.c10
  have hfz := hE.ec.fz 10
  have hql := hE.lt
  have hqn : W.heap.size ≠ q := fun e9 => by
    have h5 := h1.h0 q (hX q (Or.inl rfl))
    have := h.size
    omega
  have r1 : ((W.alloc (.cells #[.int .u8 0, .int .u64 0, .int .i64 0, .int .u32 0, .int .u8 0, .int .u16 0, .int .u16 0] 32)).setCell ⟨q, 10, none⟩ (.int .u64 ((e.he : Int) + 1))).heap[W.heap.size]? = some (.cells #[.int .u8 0, .int .u64 0, .int .i64 0, .int .u32 0, .int .u8 0, .int .u16 0, .int .u16 0] 32 (0, 0)) := (Fr.grown (X := fun k => k = q) (grown_setCell _ q 10 _) (fun k e => (Option.some.inj e).symm)).row r0 hqn
  have H2 := Lib.hid h2
  have HS := Lib.hid h.size
  have HOB : Hid (∀ b, (Value.slice A n c).ownBlock = some b → b ≠ W.heap.size) := Lib.hid fun b e9 e8 => by
    obtain ⟨-, cur, hg⟩ := h.own.lt e9
    rw [e8] at hg
    exact absurd (Array.getElem?_eq_some_iff.1 hg).1 (Nat.lt_irrefl _)
  have HR1 := Lib.hid r1
  generalize e.he = k at *
  clear h h1 h2 hE hX BA r1
  go_enter Tryz.func57, Tryz.ntmps57
  go_upto_region 3 with (fail)
  clear c10 hfz hql r0
  generalize World.setCell _ _ _ = w5 at *
  have hz := (Array.getElem?_eq_some_iff.1 HR1.out).1
  obtain ⟨k0, k1, k2, k3, k4, k5, k6, kf⟩ := row7 HR1.out
  have HS7 := Lib.hid (set7 HR1.out (.int .u8 1) (.int .u64 (k : Int)) (.int .i64 0) (.int .u32 0) (.int .u8 0) (.int .u16 0) (.int .u16 0))
  have HT7 := Lib.hid (H2.out.fr (fr7 w5 W.heap.size (.int .u8 1) (.int .u64 (k : Int)) (.int .i64 0) (.int .u32 0) (.int .u8 0) (.int .u16 0) (.int .u16 0)) (fun k9 e9 => by
    subst e9
    exact ⟨HS.out, ⟨_, _, HR1.out⟩, fun e8 => HOB.out _ e8 rfl⟩))
  clear H2 HOB HS
  go_wp2
  exact bodyPost_ret (results_cell_row rfl _ _ W.heap.size 32 _ (0, 0) _ rfl HS7.out Tryz.underlying32 rfl info32c) rfl ⟨rfl, HT7.out⟩
set_option maxHeartbeats 4000000 in
theorem take_ti {lo : Nat} {w0 : World} {q : Nat} {m0 : Mem} {e : Eng} {A : Option Addr} {n c : Nat} {l : List Pt} {W : World} (h : TI lo w0 q m0 e A n c l W) :
    Calls Tryz.prog 62 #[.pointer (some ⟨q, 10, none⟩)] W fun en w' => ∃ A2 n2 c2, en = .returned (.slice A2 n2 c2) ∧ n2 = e.rq.length ∧ GSl 7 Pt.cl w' A2 e.rq ∧ (A2 = none → c2 = 0) ∧ TI lo w0 q m0 { e with rq := [] } A n c l w' := by
  obtain ⟨m, hE, hX, -⟩ := h.ex
  obtain ⟨A2, c2, hv, -, hs, hA⟩ := gsl_of hE.p.rq (fun _ => rfl)
  have hA2 : A2 = none → c2 = 0 := fun h9 => by
    rcases hE.p.rq.2 with ⟨h8, -⟩ | ⟨g, cap, cur, h8, -⟩
    · rw [hv] at h8; injection h8
    · rw [hv, h9] at h8; injection h8 with h7; cases h7
  have h2 := h.cell (e' := { e with rq := [] }) 13 (.slice none 0 0) (fun m hp => ⟨{ m with vr := .slice none 0 0 }, hp.rq' (Fr.of (Below.refl _ _)) (GOwn.nil 32 7 Pt.cl W lo), (show ∀ k, ({ m with vr := .slice none 0 0 } : Mem).X q k → m.X q k from fun k hk => by
    rcases hk with h1 | h1 | h1 | h1 | h1 | h1 | h1 | h1 | h1 | h1
    · exact .inl h1
    · exact .inr (.inl h1)
    · exact .inr (.inr (.inl h1))
    · exact .inr (.inr (.inr (.inl h1)))
    · exact .inr (.inr (.inr (.inr (.inl h1))))
    · exact .inr (.inr (.inr (.inr (.inr (.inl h1)))))
    · exact .inr (.inr (.inr (.inr (.inr (.inr (.inl h1))))))
    · exact .inr (.inr (.inr (.inr (.inr (.inr (.inr (.inl h1)))))))
    · exact .inr (.inr (.inr (.inr (.inr (.inr (.inr (.inr (.inl h1))))))))
    · cases h1), rfl, rfl⟩) (h.ok.told rfl h.ok.cts.2.2.2.2 (Or.inl rfl) (Or.inr rfl))
  have hs2 : GSl 7 Pt.cl (W.setCell ⟨q, 13, none⟩ (.slice none 0 0)) A2 e.rq := hs.fr (Y := fun k => k = q) (Fr.grown (grown_setCell W q 13 _) (fun k e => (Option.some.inj e).symm)) (fun b o e9 e8 => by
    obtain ⟨h1, -⟩ := hA b o e9
    exact hE.apart.2.2.2.2.2.2.2.2 (by rw [h1, e8]))
  have c13 := hE.ec.c13
  rw [hv] at c13
  have hfz := hE.ec.fz 13
  have hql := hE.lt
  have HH := Lib.hid (And.intro hs2 (And.intro hA2 h2))
  obtain ⟨n2, hn2⟩ : ∃ n2, n2 = e.rq.length := ⟨_, rfl⟩
  rw [← hn2] at c13
  have HN := Lib.hid hn2
  clear h hE hX hv hs hA hA2 h2 hs2 hn2
  go_enter Tryz.func62, Tryz.ntmps62
  go_wp2
  go_ret
  exact ⟨A2, n2, c2, rfl, HN.out, HH.out.1, HH.out.2.1, HH.out.2.2⟩
end Go.Proofs.YtjbogjbopgcbhaaGreatDoor.Eg
