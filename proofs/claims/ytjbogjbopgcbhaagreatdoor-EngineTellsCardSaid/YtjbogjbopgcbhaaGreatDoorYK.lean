/- A router: what is lost. A router: these ways are chosen from now on. A router: it asks for newer serials of what is blocked. A router: the ways that it chooses among (pure). A router: what it selects. -/
import Derived.Test.YtjbogjbopgcbhaaGreatDoorYJ
namespace Go.Proofs.YtjbogjbopgcbhaaGreatDoor.Eg
open Pre Ser Rts
open Go.Proofs.YtjbogjbopgcbhaaGreatDoor.Src (row1 row2 Mk SrcAt)
open Go.Proofs.YtjbogjbopgcbhaaGreatDoor.Lk (LkAt)
open Go.ChangeShapes Go.WideShapes Go.ChangeAt Go.RowKit
set_option maxRecDepth 8000
set_option linter.unusedVariables false
set_option linter.unusedSimpArgs false
def lpos (e : Eng) (a n : Nat) : Nat := gpos ppk (a * 256 + n) e.lost
def Eng.isLost (e : Eng) (a n : Nat) : Bool := gthere ppk (a * 256 + n) e.lost
def Eng.lose (e : Eng) (a n : Nat) : Eng := if e.isLost a n then e else { e with lost := e.lost.take (lpos e a n) ++ (a, n) :: e.lost.drop (lpos e a n) }
theorem bs_lost (w : World) (lo q : Nat) (e : Eng) (m : Mem) (h : EngAt lo w q e m) (hok : e.Ok) (a n : Nat) (hn : n < 256) (A : Option Addr) (c : Nat) (hv : m.vl = .slice A e.lost.length c) (hs : GSl 2 clP w A e.lost) (W : World) (B : Below w.heap.size w W) :
    Calls Tryz.prog 145 #[.slice A e.lost.length c, .agg #[.int .u32 (a : Int), .int .u8 (n : Int)], .func (.func 50) #[] #[]] W fun en w' => en = .returned (.tuple #[.int .i64 ((lpos e a n : Nat) : Int), .bool (e.isLost a n)]) ∧ Below W.heap.size W w' :=
  bsfPx_any W A e.lost.length c e.lost rfl (by have := hok.lol; omega) (hs.below B) ppk (a * 256 + n) hok.lou a n (fun r => cmpP r.1 r.2 a n) (fun r hr => ⟨cmpP_lt (hok.loo r hr).2 hn, cmpP_eq (hok.loo r hr).2 hn⟩) (fun W r _ => compare_any r.1 r.2 a n W)
theorem lose_no (w : World) (lo q : Nat) (e : Eng) (m : Mem) (h : EngAt lo w q e m) (hok : e.Ok) (a n : Nat) (hn : n < 256) (hx : e.isLost a n = true) :
    Calls Tryz.prog 101 #[.pointer (some ⟨q, 10, none⟩), .agg #[.int .u32 (a : Int), .int .u8 (n : Int)]] w fun en w' => en = .returned (.tuple #[]) ∧ Below w.heap.size w w' := by
  obtain ⟨A, c, hv, -, hs, -⟩ := gsl_of h.p.lost (fun _ => rfl)
  have B0 := (Below.refl w.heap.size w).alloc (Nat.le_refl _) (.cells #[.int .u32 (a : Int), .int .u8 (n : Int)] 30)
  have r0 := heap_alloc_new w (.cells #[.int .u32 (a : Int), .int .u8 (n : Int)] 30)
  have hbs := fun W (B : Below (w.alloc (.cells #[.int .u32 (a : Int), .int .u8 (n : Int)] 30)).heap.size (w.alloc (.cells #[.int .u32 (a : Int), .int .u8 (n : Int)] 30)) W) => bs_lost _ lo q e m (h.step B0) hok a n hn A c hv (hs.below B0) W B
  have HE0 := Lib.hid (h.step B0)
  have c12 := HE0.out.ec.c12
  rw [hv] at c12
  obtain ⟨P, hP⟩ : ∃ P, P = lpos e a n := ⟨_, rfl⟩
  obtain ⟨N, hN⟩ : ∃ N, N = e.lost.length := ⟨_, rfl⟩
  obtain ⟨D, hD⟩ : ∃ D, D = e.isLost a n := ⟨_, rfl⟩
  rw [← hP, ← hN, ← hD] at hbs
  try rw [← hP]
  rw [← hN] at c12 hv
  have hDv : D = true := hD.trans hx
  clear hD
  subst hDv
  have HV := Lib.hid hv
  have HLO := Lib.hid h.los
  have HX0 := Lib.hid (fun (e9 : m.vl.ownBlock = some w.heap.size) => (h.x_lt (k := w.heap.size) (.inr (.inr (.inr (.inr (.inr (.inr (.inr (.inr (.inl e9)))))))))).2.1)
  have HPN := Lib.hid (And.intro (show P ≤ e.lost.length by rw [hP]; exact gpos_le _ _ _) (And.intro hP (show e.lost.length ≤ 1000 by have := hok.lol; omega)))
  have HC12 := Lib.hid c12
  have HQ := Lib.hid HE0.out.lt
  have HR0 := Lib.hid r0
  have HBS := Lib.hid hbs
  have HB0 := Lib.hid B0
  clear c12 r0 hbs B0 hv hs hP hN h hok hx
  go_enter Tryz.func101, Tryz.ntmps101
  go_upto_region 1 with (fail)
  generalize w.alloc _ = w0 at *
  refine wp_region_noPanic ?_
  refine wp_region_held_drew (S := fun y9 : World => Below w0.heap.size w0 y9) (by kernel_rfl) ((Below.refl _ _).drew) (fun hHeld => ?_)
  generalize w0.drew = wd at *
  refine wpAnyH_take (i := 0) (oi := ⟨some 7, .move (.tmp 0), 168, "outgoing.go:32", #[], none⟩) (v := .pointer (some ⟨q, 10, none⟩)) rfl (by kernel_rfl) (by kernel_rfl) (by kernel_rfl) (fun _ _ _ h => h) (Or.inl ⟨by rfl, fun w hSw => by go_simp⟩) (by assumption) ?_
  try simp only [Act.put, List.setIfInBounds_toArray, List.set_cons_zero, List.set_cons_succ]
  refine wpAnyH_take (i := 1) (oi := ⟨some 8, .nilCheck (.tmp 7), 0, "outgoing.go:32", #[⟨0, .data⟩], none⟩) (v := .pointer (some ⟨q, 10, none⟩)) rfl (by kernel_rfl) (by kernel_rfl) (by kernel_rfl) (fun _ _ _ h => h) (Or.inl ⟨by rfl, fun w hSw => by go_simp⟩) (by assumption) ?_
  try simp only [Act.put, List.setIfInBounds_toArray, List.set_cons_zero, List.set_cons_succ]
  refine wpAnyH_take (i := 2) (oi := ⟨some 9, .fieldAddr 93 (.tmp 8) 2, 0, "outgoing.go:32", #[⟨1, .data⟩], none⟩) (v := .pointer (some ⟨q, 12, none⟩)) rfl (by kernel_rfl) (by kernel_rfl) (by kernel_rfl) (fun _ _ _ h => h) (Or.inl ⟨by rfl, fun w hSw => by go_simp⟩) (by assumption) ?_
  try simp only [Act.put, List.setIfInBounds_toArray, List.set_cons_zero, List.set_cons_succ]
  refine wpAnyH_take (i := 3) (oi := ⟨some 10, .load 64 (.tmp 9), 64, "outgoing.go:32", #[⟨2, .data⟩], none⟩) (v := .slice A N c) rfl (by kernel_rfl) (by kernel_rfl) (by kernel_rfl) (fun _ _ _ h => h) (Or.inl ⟨by rfl, fun w hSw => by have c12 := ((Ser.bcell hSw).1 q 12 HQ.out).trans HC12.out; go_simp⟩) (by assumption) ?_
  try simp only [Act.put, List.setIfInBounds_toArray, List.set_cons_zero, List.set_cons_succ]
  refine wpAnyH_take (i := 4) (oi := ⟨some 11, .load 30 (.tmp 3), 30, "outgoing.go:32", #[], none⟩) (v := .agg #[.int .u32 (a : Int), .int .u8 (n : Int)]) rfl (by kernel_rfl) (by kernel_rfl) (by kernel_rfl) (fun _ _ _ h => h) (Or.inl ⟨by rfl, fun w hSw => by obtain ⟨p0, p1, -⟩ := row2 (brow hSw HR0.out); go_simp⟩) (by assumption) ?_
  try simp only [Act.put, List.setIfInBounds_toArray, List.set_cons_zero, List.set_cons_succ]
  refine wpAnyH_ready (rs := [5]) (by kernel_rfl) (by simp) ?_
  refine (AllReadyH.cons (o := ⟨some 12, .call ⟨.value (.func 145), #[.tmp 10, .tmp 11, .func 50], #[64, 30, 107]⟩, 110, "outgoing.go:32", #[⟨3, .data⟩, ⟨4, .data⟩], none⟩) rfl (fun K hK => ?_) AllReadyH.nil)
  go_simp
  with_reducible refine (HBS.out _ hHeld).mono ?_
  rintro en w3 ⟨rfl, B3⟩
  have h3 := hHeld.trans (B3.mono hHeld.size)
  refine hK.out _ _ (h3) (fun hHeld2 => ?_)
  clear hK K hHeld
  have hHeld := hHeld2
  clear hHeld2
  try simp only [Act.put, List.setIfInBounds_toArray, List.set_cons_zero, List.set_cons_succ]
  generalize w3 = wd at *
  refine wpAnyH_take (i := 6) (oi := ⟨some 6, .move (.tmp 12), 110, "outgoing.go:32", #[⟨5, .data⟩], none⟩) (v := .tuple #[.int .i64 (P : Int), .bool true]) rfl (by kernel_rfl) (by kernel_rfl) (by kernel_rfl) (fun _ _ _ h => h) (Or.inl ⟨by rfl, fun w hSw => by go_simp⟩) (by assumption) ?_
  try simp only [Act.put, List.setIfInBounds_toArray, List.set_cons_zero, List.set_cons_succ]
  refine wpAnyH_take (i := 7) (oi := ⟨some 13, .extract (.tmp 6) 0, 3, "outgoing.go:32", #[⟨6, .data⟩], none⟩) (v := .int .i64 (P : Int)) rfl (by kernel_rfl) (by kernel_rfl) (by kernel_rfl) (fun _ _ _ h => h) (Or.inl ⟨by rfl, fun w hSw => by go_simp⟩) (by assumption) ?_
  try simp only [Act.put, List.setIfInBounds_toArray, List.set_cons_zero, List.set_cons_succ]
  refine wpAnyH_take (i := 8) (oi := ⟨some 14, .extract (.tmp 6) 1, 4, "outgoing.go:32", #[⟨6, .data⟩, ⟨9, .gcOnly .lateStores⟩], none⟩) (v := .bool true) rfl (by kernel_rfl) (by kernel_rfl) (by kernel_rfl) (fun _ _ _ h => h) (Or.inl ⟨by rfl, fun w hSw => by go_simp⟩) (by assumption) ?_
  try simp only [Act.put, List.setIfInBounds_toArray, List.set_cons_zero, List.set_cons_succ]
  refine wpAnyH_take (i := 9) (oi := ⟨some 4, .assign (.tmp 13), 3, "outgoing.go:32", #[⟨7, .data⟩, ⟨5, .chain⟩, ⟨0, .phase⟩, ⟨1, .phase⟩, ⟨2, .phase⟩, ⟨3, .phase⟩, ⟨4, .phase⟩, ⟨5, .phase⟩, ⟨6, .phase⟩, ⟨7, .phase⟩, ⟨8, .textOnly .lateStores⟩], none⟩) (v := .int .i64 (P : Int)) rfl (by kernel_rfl) (by kernel_rfl) (by kernel_rfl) (fun _ _ _ h => h) (Or.inl ⟨by rfl, fun w hSw => by go_simp⟩) (by assumption) ?_
  try simp only [Act.put, List.setIfInBounds_toArray, List.set_cons_zero, List.set_cons_succ]
  refine wpAnyH_take (i := 10) (oi := ⟨some 5, .assign (.tmp 14), 4, "outgoing.go:32", #[⟨8, .data⟩, ⟨9, .chain⟩, ⟨0, .phase⟩, ⟨1, .phase⟩, ⟨2, .phase⟩, ⟨3, .phase⟩, ⟨4, .phase⟩, ⟨5, .phase⟩, ⟨6, .phase⟩, ⟨7, .phase⟩, ⟨8, .phase⟩, ⟨9, .phase⟩], none⟩) (v := .bool true) rfl (by kernel_rfl) (by kernel_rfl) (by kernel_rfl) (fun _ _ _ h => h) (Or.inl ⟨by rfl, fun w hSw => by go_simp⟩) (by assumption) ?_
  try simp only [Act.put, List.setIfInBounds_toArray, List.set_cons_zero, List.set_cons_succ]
  refine wpAnyH_done (by kernel_rfl) ?_ _
  try unfold NoPanic
  have HB := Lib.hid (HB0.out.trans (hHeld.mono HB0.out.size))
  clear hHeld
  go_wp2
  exact bodyPost_end (v := .tuple #[]) (by simp [results, Tryz.results101, go_sem]) rfl ⟨rfl, HB.out⟩
set_option maxHeartbeats 4000000 in
theorem lose_yes (w : World) (lo q : Nat) (e : Eng) (m : Mem) (h : EngAt lo w q e m) (hok : e.Ok) (a n : Nat) (hn : n < 256) (hx : e.isLost a n = false) :
    Calls Tryz.prog 101 #[.pointer (some ⟨q, 10, none⟩), .agg #[.int .u32 (a : Int), .int .u8 (n : Int)]] w fun en w' => en = .returned (.tuple #[]) ∧ ES lo w q m { e with lost := e.lost.take (lpos e a n) ++ (a, n) :: e.lost.drop (lpos e a n) } w' := by
  obtain ⟨A, c, hv, -, hs, -⟩ := gsl_of h.p.lost (fun _ => rfl)
  have B0 := (Below.refl w.heap.size w).alloc (Nat.le_refl _) (.cells #[.int .u32 (a : Int), .int .u8 (n : Int)] 30)
  have r0 := heap_alloc_new w (.cells #[.int .u32 (a : Int), .int .u8 (n : Int)] 30)
  have hbs := fun W (B : Below (w.alloc (.cells #[.int .u32 (a : Int), .int .u8 (n : Int)] 30)).heap.size (w.alloc (.cells #[.int .u32 (a : Int), .int .u8 (n : Int)] 30)) W) => bs_lost _ lo q e m (h.step B0) hok a n hn A c hv (hs.below B0) W B
  have HE0 := Lib.hid (h.step B0)
  have c12 := HE0.out.ec.c12
  rw [hv] at c12
  obtain ⟨P, hP⟩ : ∃ P, P = lpos e a n := ⟨_, rfl⟩
  obtain ⟨N, hN⟩ : ∃ N, N = e.lost.length := ⟨_, rfl⟩
  obtain ⟨D, hD⟩ : ∃ D, D = e.isLost a n := ⟨_, rfl⟩
  rw [← hP, ← hN, ← hD] at hbs
  try rw [← hP]
  rw [← hN] at c12 hv
  have hDv : D = false := hD.trans hx
  clear hD
  subst hDv
  have HV := Lib.hid hv
  have HLO := Lib.hid h.los
  have HX0 := Lib.hid (fun (e9 : m.vl.ownBlock = some w.heap.size) => (h.x_lt (k := w.heap.size) (.inr (.inr (.inr (.inr (.inr (.inr (.inr (.inr (.inl e9)))))))))).2.1)
  have HPN := Lib.hid (And.intro (show P ≤ e.lost.length by rw [hP]; exact gpos_le _ _ _) (And.intro hP (show e.lost.length ≤ 1000 by have := hok.lol; omega)))
  have HC12 := Lib.hid c12
  have HQ := Lib.hid HE0.out.lt
  have HR0 := Lib.hid r0
  have HBS := Lib.hid hbs
  have HB0 := Lib.hid B0
  clear c12 r0 hbs B0 hv hs hP hN h hok hx
  go_enter Tryz.func101, Tryz.ntmps101
  go_upto_region 1 with (fail)
  generalize w.alloc _ = w0 at *
  refine wp_region_noPanic ?_
  refine wp_region_held_drew (S := fun y9 : World => Below w0.heap.size w0 y9) (by kernel_rfl) ((Below.refl _ _).drew) (fun hHeld => ?_)
  generalize w0.drew = wd at *
  refine wpAnyH_take (i := 0) (oi := ⟨some 7, .move (.tmp 0), 168, "outgoing.go:32", #[], none⟩) (v := .pointer (some ⟨q, 10, none⟩)) rfl (by kernel_rfl) (by kernel_rfl) (by kernel_rfl) (fun _ _ _ h => h) (Or.inl ⟨by rfl, fun w hSw => by go_simp⟩) (by assumption) ?_
  try simp only [Act.put, List.setIfInBounds_toArray, List.set_cons_zero, List.set_cons_succ]
  refine wpAnyH_take (i := 1) (oi := ⟨some 8, .nilCheck (.tmp 7), 0, "outgoing.go:32", #[⟨0, .data⟩], none⟩) (v := .pointer (some ⟨q, 10, none⟩)) rfl (by kernel_rfl) (by kernel_rfl) (by kernel_rfl) (fun _ _ _ h => h) (Or.inl ⟨by rfl, fun w hSw => by go_simp⟩) (by assumption) ?_
  try simp only [Act.put, List.setIfInBounds_toArray, List.set_cons_zero, List.set_cons_succ]
  refine wpAnyH_take (i := 2) (oi := ⟨some 9, .fieldAddr 93 (.tmp 8) 2, 0, "outgoing.go:32", #[⟨1, .data⟩], none⟩) (v := .pointer (some ⟨q, 12, none⟩)) rfl (by kernel_rfl) (by kernel_rfl) (by kernel_rfl) (fun _ _ _ h => h) (Or.inl ⟨by rfl, fun w hSw => by go_simp⟩) (by assumption) ?_
  try simp only [Act.put, List.setIfInBounds_toArray, List.set_cons_zero, List.set_cons_succ]
  refine wpAnyH_take (i := 3) (oi := ⟨some 10, .load 64 (.tmp 9), 64, "outgoing.go:32", #[⟨2, .data⟩], none⟩) (v := .slice A N c) rfl (by kernel_rfl) (by kernel_rfl) (by kernel_rfl) (fun _ _ _ h => h) (Or.inl ⟨by rfl, fun w hSw => by have c12 := ((Ser.bcell hSw).1 q 12 HQ.out).trans HC12.out; go_simp⟩) (by assumption) ?_
  try simp only [Act.put, List.setIfInBounds_toArray, List.set_cons_zero, List.set_cons_succ]
  refine wpAnyH_take (i := 4) (oi := ⟨some 11, .load 30 (.tmp 3), 30, "outgoing.go:32", #[], none⟩) (v := .agg #[.int .u32 (a : Int), .int .u8 (n : Int)]) rfl (by kernel_rfl) (by kernel_rfl) (by kernel_rfl) (fun _ _ _ h => h) (Or.inl ⟨by rfl, fun w hSw => by obtain ⟨p0, p1, -⟩ := row2 (brow hSw HR0.out); go_simp⟩) (by assumption) ?_
  try simp only [Act.put, List.setIfInBounds_toArray, List.set_cons_zero, List.set_cons_succ]
  refine wpAnyH_ready (rs := [5]) (by kernel_rfl) (by simp) ?_
  refine (AllReadyH.cons (o := ⟨some 12, .call ⟨.value (.func 145), #[.tmp 10, .tmp 11, .func 50], #[64, 30, 107]⟩, 110, "outgoing.go:32", #[⟨3, .data⟩, ⟨4, .data⟩], none⟩) rfl (fun K hK => ?_) AllReadyH.nil)
  go_simp
  with_reducible refine (HBS.out _ hHeld).mono ?_
  rintro en w3 ⟨rfl, B3⟩
  have h3 := hHeld.trans (B3.mono hHeld.size)
  refine hK.out _ _ (h3) (fun hHeld2 => ?_)
  clear hK K hHeld
  have hHeld := hHeld2
  clear hHeld2
  try simp only [Act.put, List.setIfInBounds_toArray, List.set_cons_zero, List.set_cons_succ]
  generalize w3 = wd at *
  refine wpAnyH_take (i := 6) (oi := ⟨some 6, .move (.tmp 12), 110, "outgoing.go:32", #[⟨5, .data⟩], none⟩) (v := .tuple #[.int .i64 (P : Int), .bool false]) rfl (by kernel_rfl) (by kernel_rfl) (by kernel_rfl) (fun _ _ _ h => h) (Or.inl ⟨by rfl, fun w hSw => by go_simp⟩) (by assumption) ?_
  try simp only [Act.put, List.setIfInBounds_toArray, List.set_cons_zero, List.set_cons_succ]
  refine wpAnyH_take (i := 7) (oi := ⟨some 13, .extract (.tmp 6) 0, 3, "outgoing.go:32", #[⟨6, .data⟩], none⟩) (v := .int .i64 (P : Int)) rfl (by kernel_rfl) (by kernel_rfl) (by kernel_rfl) (fun _ _ _ h => h) (Or.inl ⟨by rfl, fun w hSw => by go_simp⟩) (by assumption) ?_
  try simp only [Act.put, List.setIfInBounds_toArray, List.set_cons_zero, List.set_cons_succ]
  refine wpAnyH_take (i := 8) (oi := ⟨some 14, .extract (.tmp 6) 1, 4, "outgoing.go:32", #[⟨6, .data⟩, ⟨9, .gcOnly .lateStores⟩], none⟩) (v := .bool false) rfl (by kernel_rfl) (by kernel_rfl) (by kernel_rfl) (fun _ _ _ h => h) (Or.inl ⟨by rfl, fun w hSw => by go_simp⟩) (by assumption) ?_
  try simp only [Act.put, List.setIfInBounds_toArray, List.set_cons_zero, List.set_cons_succ]
  refine wpAnyH_take (i := 9) (oi := ⟨some 4, .assign (.tmp 13), 3, "outgoing.go:32", #[⟨7, .data⟩, ⟨5, .chain⟩, ⟨0, .phase⟩, ⟨1, .phase⟩, ⟨2, .phase⟩, ⟨3, .phase⟩, ⟨4, .phase⟩, ⟨5, .phase⟩, ⟨6, .phase⟩, ⟨7, .phase⟩, ⟨8, .textOnly .lateStores⟩], none⟩) (v := .int .i64 (P : Int)) rfl (by kernel_rfl) (by kernel_rfl) (by kernel_rfl) (fun _ _ _ h => h) (Or.inl ⟨by rfl, fun w hSw => by go_simp⟩) (by assumption) ?_
  try simp only [Act.put, List.setIfInBounds_toArray, List.set_cons_zero, List.set_cons_succ]
  refine wpAnyH_take (i := 10) (oi := ⟨some 5, .assign (.tmp 14), 4, "outgoing.go:32", #[⟨8, .data⟩, ⟨9, .chain⟩, ⟨0, .phase⟩, ⟨1, .phase⟩, ⟨2, .phase⟩, ⟨3, .phase⟩, ⟨4, .phase⟩, ⟨5, .phase⟩, ⟨6, .phase⟩, ⟨7, .phase⟩, ⟨8, .phase⟩, ⟨9, .phase⟩], none⟩) (v := .bool false) rfl (by kernel_rfl) (by kernel_rfl) (by kernel_rfl) (fun _ _ _ h => h) (Or.inl ⟨by rfl, fun w hSw => by go_simp⟩) (by assumption) ?_
  try simp only [Act.put, List.setIfInBounds_toArray, List.set_cons_zero, List.set_cons_succ]
  refine wpAnyH_done (by kernel_rfl) ?_ _
  try unfold NoPanic
  have HB := Lib.hid (HB0.out.trans (hHeld.mono HB0.out.size))
  have HE0' := Lib.hid (HE0.out.step hHeld)
  have HR1 := Lib.hid (brow hHeld HR0.out)
  clear hHeld
  go_upto_region 3 with (fail)
  generalize wd = w1 at *
  have HR := Lib.hid (And.intro HR1.out (show ¬ (w.heap.size = q ∨ m.vl.ownBlock = some w.heap.size) from fun e9 => by
    rcases e9 with e9 | e9
    · exact row_ne HR1.out HE0'.out.row (by decide) e9
    · have h1 := (HE0.out.x_lt (k := w.heap.size) (.inr (.inr (.inr (.inr (.inr (.inr (.inr (.inr (.inl e9)))))))))).2.1
      have h2 := HX0.out e9
      omega))
  have HE := Lib.hid (HE0'.out.step ((Below.refl _ w1).drew))
  refine wp_region_noPanic ?_
  refine wp_region_held_drew (S := fun y : World => Fr (fun j => j = q ∨ m.vl.ownBlock = some j) w1 y) (by kernel_rfl) (Fr.of ((Below.refl _ w1).drew)) (fun hHeld => ?_)
  generalize w1.drew = wd at *
  refine wpAnyH_take (i := 0) (oi := ⟨some 17, .move (.tmp 0), 168, "outgoing.go:33", #[], none⟩) (v := .pointer (some ⟨q, 10, none⟩)) rfl (by kernel_rfl) (by kernel_rfl) (by kernel_rfl) (fun _ _ _ h => h) (Or.inl ⟨by rfl, fun w hSw => by go_simp⟩) (by assumption) ?_
  try simp only [Act.put, List.setIfInBounds_toArray, List.set_cons_zero, List.set_cons_succ]
  refine wpAnyH_take (i := 1) (oi := ⟨some 18, .move (.tmp 0), 168, "outgoing.go:33", #[], none⟩) (v := .pointer (some ⟨q, 10, none⟩)) rfl (by kernel_rfl) (by kernel_rfl) (by kernel_rfl) (fun _ _ _ h => h) (Or.inl ⟨by rfl, fun w hSw => by go_simp⟩) (by assumption) ?_
  try simp only [Act.put, List.setIfInBounds_toArray, List.set_cons_zero, List.set_cons_succ]
  refine wpAnyH_take (i := 2) (oi := ⟨some 19, .nilCheck (.tmp 18), 0, "outgoing.go:33", #[⟨1, .data⟩], none⟩) (v := .pointer (some ⟨q, 10, none⟩)) rfl (by kernel_rfl) (by kernel_rfl) (by kernel_rfl) (fun _ _ _ h => h) (Or.inl ⟨by rfl, fun w hSw => by go_simp⟩) (by assumption) ?_
  try simp only [Act.put, List.setIfInBounds_toArray, List.set_cons_zero, List.set_cons_succ]
  refine wpAnyH_take (i := 3) (oi := ⟨some 20, .fieldAddr 93 (.tmp 19) 2, 0, "outgoing.go:33", #[⟨2, .data⟩], none⟩) (v := .pointer (some ⟨q, 12, none⟩)) rfl (by kernel_rfl) (by kernel_rfl) (by kernel_rfl) (fun _ _ _ h => h) (Or.inl ⟨by rfl, fun w hSw => by go_simp⟩) (by assumption) ?_
  try simp only [Act.put, List.setIfInBounds_toArray, List.set_cons_zero, List.set_cons_succ]
  refine wpAnyH_take (i := 5) (oi := ⟨some 22, .move (.tmp 4), 3, "outgoing.go:33", #[], none⟩) (v := .int .i64 (P : Int)) rfl (by kernel_rfl) (by kernel_rfl) (by kernel_rfl) (fun _ _ _ h => h) (Or.inl ⟨by rfl, fun w hSw => by go_simp⟩) (by assumption) ?_
  try simp only [Act.put, List.setIfInBounds_toArray, List.set_cons_zero, List.set_cons_succ]
  refine wpAnyH_take (i := 6) (oi := ⟨some 23, .load 30 (.tmp 3), 30, "outgoing.go:33", #[], none⟩) (v := .agg #[.int .u32 (a : Int), .int .u8 (n : Int)]) rfl (by kernel_rfl) (by kernel_rfl) (by kernel_rfl) (fun _ _ _ h => h) (Or.inl ⟨by rfl, fun w hSw => by obtain ⟨p0, p1, -⟩ := row2 (hSw.row HR.out.1 HR.out.2); go_simp⟩) (by assumption) ?_
  try simp only [Act.put, List.setIfInBounds_toArray, List.set_cons_zero, List.set_cons_succ]
  refine wpAnyH_ready (rs := [4, 7]) (by kernel_rfl) (by simp) ?_
  refine (AllReadyH.cons (o := ⟨some 21, .load 64 (.tmp 20), 64, "outgoing.go:33", #[⟨3, .data⟩], none⟩) rfl (fun K hK => ?_) (AllReadyH.cons (o := ⟨some 24, .buildSlice 64 1 #[(0, .tmp 23)], 64, "outgoing.go:33", #[⟨6, .data⟩], none⟩) rfl (fun K hK => ?_) AllReadyH.nil))
  · have c12 := HE.out.ec.c12
    rw [HV.out] at c12
    have hql := HE.out.lt
    go_simp
    refine hK.out _ _ (hHeld) (fun hHeld2 => ?_)
    clear hK K hHeld
    have hHeld := hHeld2
    clear hHeld2
    try simp only [Act.put, List.setIfInBounds_toArray, List.set_cons_zero, List.set_cons_succ]
    clear c12 hql
    refine wpAnyH_ready (rs := [7]) (by kernel_rfl) (by simp) ?_
    refine (AllReadyH.cons (o := ⟨some 24, .buildSlice 64 1 #[(0, .tmp 23)], 64, "outgoing.go:33", #[⟨6, .data⟩], none⟩) rfl (fun K hK => ?_) AllReadyH.nil)
    have HZN := Lib.hid hHeld.size
    go_simp
    refine hK.out _ _ (hHeld.step ((Below.refl _ _).alloc (Nat.le_refl _) (.cells #[.int .u32 (a : Int), .int .u8 (n : Int)] 30))) (fun hHeld2 => ?_)
    clear hK K hHeld
    have hHeld := hHeld2
    clear hHeld2
    try simp only [Act.put, List.setIfInBounds_toArray, List.set_cons_zero, List.set_cons_succ]
    have BA := (Below.refl wd.heap.size wd).alloc (Nat.le_refl _) (.cells #[.int .u32 (a : Int), .int .u8 (n : Int)] 30)
    have HZ := Lib.hid (show (wd.alloc (.cells #[.int .u32 (a : Int), .int .u8 (n : Int)] 30)).heap[wd.heap.size]? = some (.cells (clP (a, n)).toArray 30 (0, 0)) from heap_alloc_new wd (.cells #[.int .u32 (a : Int), .int .u8 (n : Int)] 30))
    have HE2 := Lib.hid (HE.out.step BA)
    clear BA HE
    generalize wd.alloc _ = wd3 at *
    generalize wd.heap.size = z at *
    generalize wd3 = wd at *
    have HE := HE2
    clear HE2
    refine wpAnyH_ready (rs := [8]) (by kernel_rfl) (by simp) ?_
    refine (AllReadyH.cons (o := ⟨some 25, .call ⟨.value (.func 146), #[.tmp 21, .tmp 22, .tmp 24], #[64, 3, 64]⟩, 64, "outgoing.go:33", #[⟨4, .data⟩, ⟨5, .data⟩, ⟨7, .data⟩], none⟩) rfl (fun K hK => ?_) AllReadyH.nil)
    have hz : m.vl.ownBlock ≠ some z := fun e9 => by
      obtain ⟨-, cur, hg⟩ := HE0'.out.p.lost.lt e9
      have := (Array.getElem?_eq_some_iff.1 hg).1
      have := HZN.out
      omega
    have cI : Calls Tryz.prog 146 #[.slice A N c, .int .i64 (P : Int), .slice (some ⟨z, 0, none⟩) 1 1] wd (InP.InsSaid wd lo m.vl (e.lost.take P ++ (a, n) :: e.lost.drop P)) := by
      rw [← HV.out]
      exact InP.ins_any wd lo m.vl e.lost (a, n) P z HE.out.p.lost HZ.out hz HPN.out.1 HPN.out.2.2 HE.out.los
    go_simp
    with_reducible refine cI.mono ?_
    rintro en wd2 ⟨v5, rfl, O5, G5, L5⟩
    obtain ⟨A5, n5, c5, hv5⟩ : ∃ A5 n5 c5, v5 = .slice A5 n5 c5 := by
      obtain ⟨A5, c5, hv5, -⟩ := O5.form
      exact ⟨_, _, _, hv5⟩
    have F5 : Fr (fun j => m.vl.ownBlock = some j) wd wd2 := Fr.grown G5 (fun j e => e)
    have HP5 := Lib.hid (HE.out.p.lost' F5 (show GOwn 30 2 clP wd2 lo v5 (e.lost.take P ++ (a, n) :: e.lost.drop P) from O5))
    have HRW := Lib.hid (F5.row HE.out.row (HE.out.apart).2.2.2.2.2.2.2.1)
    have HMV := Lib.hid (show Moved w1 m.vl v5 from L5.imp_right fun h b e9 => by
      rw [h] at e9
      have e9 := Option.some.inj e9
      have := hHeld.size
      omega)
    have hHeld3 := hHeld.trans (Fr.grown (X := fun j => j = q ∨ m.vl.ownBlock = some j) G5 (fun k e => Or.inr e))
    subst hv5
    clear O5 G5 L5 F5 hz cI HE HZ
    refine hK.out _ _ (hHeld3) (fun hHeld2 => ?_)
    clear hK K hHeld
    have hHeld := hHeld2
    clear hHeld2
    try simp only [Act.put, List.setIfInBounds_toArray, List.set_cons_zero, List.set_cons_succ]
    clear hHeld3
    generalize wd2 = wd at *
    refine wpAnyH_take (i := 9) (oi := ⟨some 26, .nilCheck (.tmp 17), 0, "outgoing.go:33", #[⟨0, .data⟩, ⟨0, .phase⟩, ⟨1, .phase⟩, ⟨2, .phase⟩, ⟨3, .phase⟩, ⟨4, .phase⟩, ⟨5, .phase⟩, ⟨6, .phase⟩, ⟨7, .phase⟩, ⟨8, .phase⟩], none⟩) (v := .pointer (some ⟨q, 10, none⟩)) rfl (by kernel_rfl) (by kernel_rfl) (by kernel_rfl) (fun _ _ _ h => h) (Or.inl ⟨by rfl, fun w hSw => by go_simp⟩) (by assumption) ?_
    try simp only [Act.put, List.setIfInBounds_toArray, List.set_cons_zero, List.set_cons_succ]
    refine wpAnyH_take (i := 10) (oi := ⟨some 27, .fieldAddr 93 (.tmp 26) 2, 0, "outgoing.go:33", #[⟨9, .data⟩, ⟨0, .phase⟩, ⟨1, .phase⟩, ⟨2, .phase⟩, ⟨3, .phase⟩, ⟨4, .phase⟩, ⟨5, .phase⟩, ⟨6, .phase⟩, ⟨7, .phase⟩, ⟨8, .phase⟩], none⟩) (v := .pointer (some ⟨q, 12, none⟩)) rfl (by kernel_rfl) (by kernel_rfl) (by kernel_rfl) (fun _ _ _ h => h) (Or.inl ⟨by rfl, fun w hSw => by go_simp⟩) (by assumption) ?_
    try simp only [Act.put, List.setIfInBounds_toArray, List.set_cons_zero, List.set_cons_succ]
    refine wpAnyH_ready (rs := [11]) (by kernel_rfl) (by simp) ?_
    refine (AllReadyH.cons (o := ⟨none, .store 64 (.tmp 27) (.tmp 25), 0, "outgoing.go:33", #[⟨10, .data⟩, ⟨8, .data⟩, ⟨8, .chain⟩, ⟨0, .phase⟩, ⟨1, .phase⟩, ⟨2, .phase⟩, ⟨3, .phase⟩, ⟨4, .phase⟩, ⟨5, .phase⟩, ⟨6, .phase⟩, ⟨7, .phase⟩, ⟨8, .phase⟩], none⟩) rfl (fun K hK => ?_) AllReadyH.nil)
    have hc4 := cell_of_row wd q 12 _ 95 (0, 0) HRW.out
    have hf4 := frozen_of_row wd q 12 _ 95 HRW.out
    have hql := (Array.getElem?_eq_some_iff.1 HRW.out).1
    go_simp
    refine hK.out _ _ (hHeld.trans (Fr.grown (grown_setCell wd q 12 _) (fun k e => Or.inl (Option.some.inj e).symm))) (fun hHeld2 => ?_)
    clear hK K hHeld
    have hHeld := hHeld2
    clear hHeld2
    try simp only [Act.put, List.setIfInBounds_toArray, List.set_cons_zero, List.set_cons_succ]
    have HI := Lib.hid (EngAt.put HRW.out HE0'.out.le HP5.out 12 (.slice A5 n5 c5) rfl)
    clear hc4 hf4 hql HP5 HRW
    generalize wd.setCell _ _ = wd9 at *
    generalize wd9 = wd at *
    refine wpAnyH_done (by kernel_rfl) ?_ _
    try unfold NoPanic
    have HF := Lib.hid hHeld
    clear hHeld
    go_wp2
    refine bodyPost_end (v := .tuple #[]) (by simp [results, Tryz.results101, go_sem]) rfl ⟨rfl, ?_⟩
    refine ES.trans (m := m) (Ef.of HB.out HLO.out) (fun k hk => Or.inl hk) HB.out.size ⟨_, HI.out, Ef.frm HF.out HE0'.out.los (fun k hk => ?_) (fun k hk => ?_), fun k hk => Mem.x_lost HMV.out hk, rfl⟩
    · rcases hk with rfl | hk
      · exact HE0'.out.le
      · exact (HE0'.out.p.lost.lt hk).1
    · rcases hk with rfl | hk
      · exact Or.inl rfl
      · exact .inr (.inr (.inr (.inr (.inr (.inr (.inr (.inr (.inl hk))))))))
  · have HZN := Lib.hid hHeld.size
    go_simp
    refine hK.out _ _ (hHeld.step ((Below.refl _ _).alloc (Nat.le_refl _) (.cells #[.int .u32 (a : Int), .int .u8 (n : Int)] 30))) (fun hHeld2 => ?_)
    clear hK K hHeld
    have hHeld := hHeld2
    clear hHeld2
    try simp only [Act.put, List.setIfInBounds_toArray, List.set_cons_zero, List.set_cons_succ]
    have BA := (Below.refl wd.heap.size wd).alloc (Nat.le_refl _) (.cells #[.int .u32 (a : Int), .int .u8 (n : Int)] 30)
    have HZ := Lib.hid (show (wd.alloc (.cells #[.int .u32 (a : Int), .int .u8 (n : Int)] 30)).heap[wd.heap.size]? = some (.cells (clP (a, n)).toArray 30 (0, 0)) from heap_alloc_new wd (.cells #[.int .u32 (a : Int), .int .u8 (n : Int)] 30))
    have HE2 := Lib.hid (HE.out.step BA)
    clear BA HE
    generalize wd.alloc _ = wd3 at *
    generalize wd.heap.size = z at *
    generalize wd3 = wd at *
    have HE := HE2
    clear HE2
    refine wpAnyH_ready (rs := [4]) (by kernel_rfl) (by simp) ?_
    refine (AllReadyH.cons (o := ⟨some 21, .load 64 (.tmp 20), 64, "outgoing.go:33", #[⟨3, .data⟩], none⟩) rfl (fun K hK => ?_) AllReadyH.nil)
    have c12 := HE.out.ec.c12
    rw [HV.out] at c12
    have hql := HE.out.lt
    go_simp
    refine hK.out _ _ (hHeld) (fun hHeld2 => ?_)
    clear hK K hHeld
    have hHeld := hHeld2
    clear hHeld2
    try simp only [Act.put, List.setIfInBounds_toArray, List.set_cons_zero, List.set_cons_succ]
    clear c12 hql
    refine wpAnyH_ready (rs := [8]) (by kernel_rfl) (by simp) ?_
    refine (AllReadyH.cons (o := ⟨some 25, .call ⟨.value (.func 146), #[.tmp 21, .tmp 22, .tmp 24], #[64, 3, 64]⟩, 64, "outgoing.go:33", #[⟨4, .data⟩, ⟨5, .data⟩, ⟨7, .data⟩], none⟩) rfl (fun K hK => ?_) AllReadyH.nil)
    have hz : m.vl.ownBlock ≠ some z := fun e9 => by
      obtain ⟨-, cur, hg⟩ := HE0'.out.p.lost.lt e9
      have := (Array.getElem?_eq_some_iff.1 hg).1
      have := HZN.out
      omega
    have cI : Calls Tryz.prog 146 #[.slice A N c, .int .i64 (P : Int), .slice (some ⟨z, 0, none⟩) 1 1] wd (InP.InsSaid wd lo m.vl (e.lost.take P ++ (a, n) :: e.lost.drop P)) := by
      rw [← HV.out]
      exact InP.ins_any wd lo m.vl e.lost (a, n) P z HE.out.p.lost HZ.out hz HPN.out.1 HPN.out.2.2 HE.out.los
    go_simp
    with_reducible refine cI.mono ?_
    rintro en wd2 ⟨v5, rfl, O5, G5, L5⟩
    obtain ⟨A5, n5, c5, hv5⟩ : ∃ A5 n5 c5, v5 = .slice A5 n5 c5 := by
      obtain ⟨A5, c5, hv5, -⟩ := O5.form
      exact ⟨_, _, _, hv5⟩
    have F5 : Fr (fun j => m.vl.ownBlock = some j) wd wd2 := Fr.grown G5 (fun j e => e)
    have HP5 := Lib.hid (HE.out.p.lost' F5 (show GOwn 30 2 clP wd2 lo v5 (e.lost.take P ++ (a, n) :: e.lost.drop P) from O5))
    have HRW := Lib.hid (F5.row HE.out.row (HE.out.apart).2.2.2.2.2.2.2.1)
    have HMV := Lib.hid (show Moved w1 m.vl v5 from L5.imp_right fun h b e9 => by
      rw [h] at e9
      have e9 := Option.some.inj e9
      have := hHeld.size
      omega)
    have hHeld3 := hHeld.trans (Fr.grown (X := fun j => j = q ∨ m.vl.ownBlock = some j) G5 (fun k e => Or.inr e))
    subst hv5
    clear O5 G5 L5 F5 hz cI HE HZ
    refine hK.out _ _ (hHeld3) (fun hHeld2 => ?_)
    clear hK K hHeld
    have hHeld := hHeld2
    clear hHeld2
    try simp only [Act.put, List.setIfInBounds_toArray, List.set_cons_zero, List.set_cons_succ]
    clear hHeld3
    generalize wd2 = wd at *
    refine wpAnyH_take (i := 9) (oi := ⟨some 26, .nilCheck (.tmp 17), 0, "outgoing.go:33", #[⟨0, .data⟩, ⟨0, .phase⟩, ⟨1, .phase⟩, ⟨2, .phase⟩, ⟨3, .phase⟩, ⟨4, .phase⟩, ⟨5, .phase⟩, ⟨6, .phase⟩, ⟨7, .phase⟩, ⟨8, .phase⟩], none⟩) (v := .pointer (some ⟨q, 10, none⟩)) rfl (by kernel_rfl) (by kernel_rfl) (by kernel_rfl) (fun _ _ _ h => h) (Or.inl ⟨by rfl, fun w hSw => by go_simp⟩) (by assumption) ?_
    try simp only [Act.put, List.setIfInBounds_toArray, List.set_cons_zero, List.set_cons_succ]
    refine wpAnyH_take (i := 10) (oi := ⟨some 27, .fieldAddr 93 (.tmp 26) 2, 0, "outgoing.go:33", #[⟨9, .data⟩, ⟨0, .phase⟩, ⟨1, .phase⟩, ⟨2, .phase⟩, ⟨3, .phase⟩, ⟨4, .phase⟩, ⟨5, .phase⟩, ⟨6, .phase⟩, ⟨7, .phase⟩, ⟨8, .phase⟩], none⟩) (v := .pointer (some ⟨q, 12, none⟩)) rfl (by kernel_rfl) (by kernel_rfl) (by kernel_rfl) (fun _ _ _ h => h) (Or.inl ⟨by rfl, fun w hSw => by go_simp⟩) (by assumption) ?_
    try simp only [Act.put, List.setIfInBounds_toArray, List.set_cons_zero, List.set_cons_succ]
    refine wpAnyH_ready (rs := [11]) (by kernel_rfl) (by simp) ?_
    refine (AllReadyH.cons (o := ⟨none, .store 64 (.tmp 27) (.tmp 25), 0, "outgoing.go:33", #[⟨10, .data⟩, ⟨8, .data⟩, ⟨8, .chain⟩, ⟨0, .phase⟩, ⟨1, .phase⟩, ⟨2, .phase⟩, ⟨3, .phase⟩, ⟨4, .phase⟩, ⟨5, .phase⟩, ⟨6, .phase⟩, ⟨7, .phase⟩, ⟨8, .phase⟩], none⟩) rfl (fun K hK => ?_) AllReadyH.nil)
    have hc4 := cell_of_row wd q 12 _ 95 (0, 0) HRW.out
    have hf4 := frozen_of_row wd q 12 _ 95 HRW.out
    have hql := (Array.getElem?_eq_some_iff.1 HRW.out).1
    go_simp
    refine hK.out _ _ (hHeld.trans (Fr.grown (grown_setCell wd q 12 _) (fun k e => Or.inl (Option.some.inj e).symm))) (fun hHeld2 => ?_)
    clear hK K hHeld
    have hHeld := hHeld2
    clear hHeld2
    try simp only [Act.put, List.setIfInBounds_toArray, List.set_cons_zero, List.set_cons_succ]
    have HI := Lib.hid (EngAt.put HRW.out HE0'.out.le HP5.out 12 (.slice A5 n5 c5) rfl)
    clear hc4 hf4 hql HP5 HRW
    generalize wd.setCell _ _ = wd9 at *
    generalize wd9 = wd at *
    refine wpAnyH_done (by kernel_rfl) ?_ _
    try unfold NoPanic
    have HF := Lib.hid hHeld
    clear hHeld
    go_wp2
    refine bodyPost_end (v := .tuple #[]) (by simp [results, Tryz.results101, go_sem]) rfl ⟨rfl, ?_⟩
    refine ES.trans (m := m) (Ef.of HB.out HLO.out) (fun k hk => Or.inl hk) HB.out.size ⟨_, HI.out, Ef.frm HF.out HE0'.out.los (fun k hk => ?_) (fun k hk => ?_), fun k hk => Mem.x_lost HMV.out hk, rfl⟩
    · rcases hk with rfl | hk
      · exact HE0'.out.le
      · exact (HE0'.out.p.lost.lt hk).1
    · rcases hk with rfl | hk
      · exact Or.inl rfl
      · exact .inr (.inr (.inr (.inr (.inr (.inr (.inr (.inr (.inl hk))))))))
theorem lose_any (w : World) (lo q : Nat) (e : Eng) (m : Mem) (h : EngAt lo w q e m) (hok : e.Ok) (a n : Nat) (hn : n < 256) :
    Calls Tryz.prog 101 #[.pointer (some ⟨q, 10, none⟩), .agg #[.int .u32 (a : Int), .int .u8 (n : Int)]] w fun en w' => en = .returned (.tuple #[]) ∧ ES lo w q m (e.lose a n) w' := by
  unfold Eng.lose
  cases hx : e.isLost a n with
  | true =>
    refine (lose_no w lo q e m h hok a n hn hx).mono ?_
    rintro en w' ⟨rfl, B⟩
    exact ⟨rfl, ES.of h B⟩
  | false => exact lose_yes w lo q e m h hok a n hn hx
end Go.Proofs.YtjbogjbopgcbhaaGreatDoor.Eg
namespace Go.Proofs.YtjbogjbopgcbhaaGreatDoor.Eg
open Pre Ser Rts
open Go.Proofs.YtjbogjbopgcbhaaGreatDoor.Src (row1 row2 Mk SrcAt)
open Go.Proofs.YtjbogjbopgcbhaaGreatDoor.Lk (LkAt)
open Go.ChangeShapes Go.WideShapes Go.ChangeAt Go.RowKit
set_option maxRecDepth 8000
set_option linter.unusedVariables false
set_option linter.unusedSimpArgs false
def Eng.miss (e : Eng) (r : Ro) : Eng := if e.hasP r.a r.n then e else e.lose r.a r.n
def Eng.choose (e : Eng) (ws : List Ro) : Eng := if e.ch = ws then e else e.ch.foldl Eng.miss { e with ch := ws, due := true }
theorem ppk_up_ins {l : List (Nat × Nat)} (hu : GUp ppk l) {a n : Nat} (hno : gthere ppk (a * 256 + n) l = false) : GUp ppk (l.take (gpos ppk (a * 256 + n) l) ++ (a, n) :: l.drop (gpos ppk (a * 256 + n) l)) := by
  have hp := gpos_le ppk (a * 256 + n) l
  unfold GUp
  rw [List.pairwise_append]
  have hx : ppk (a, n) = a * 256 + n := rfl
  refine ⟨List.Pairwise.sublist (List.take_sublist _ _) hu, List.pairwise_cons.2 ⟨fun y hy => ?_, List.Pairwise.sublist (List.drop_sublist _ _) hu⟩, fun y hy z hz => ?_⟩
  · obtain ⟨j, hj, rfl⟩ := List.getElem_of_mem hy
    rw [List.length_drop] at hj
    rw [List.getElem_drop, hx]
    have h1 := gpos_ge hu (x := a * 256 + n) (l := gpos ppk (a * 256 + n) l + j) (by omega) (by omega)
    refine Nat.lt_of_le_of_ne h1 fun e9 => ?_
    have := (gthere_iff hu (a * 256 + n)).2 ⟨_, List.getElem_mem (by omega), e9.symm⟩
    rw [hno] at this; cases this
  · obtain ⟨j, hj, rfl⟩ := List.getElem_of_mem hy
    rw [List.length_take] at hj
    rw [List.getElem_take]
    have h1 : ppk (l[j]'(by omega)) < a * 256 + n := gpos_lt (κ := ppk) (x := a * 256 + n) (L := l) (l := j) (by omega) (by omega)
    rcases List.mem_cons.1 hz with rfl | hz
    · exact h1
    · obtain ⟨i, hi, rfl⟩ := List.getElem_of_mem hz
      rw [List.length_drop] at hi
      rw [List.getElem_drop]
      exact Nat.lt_of_lt_of_le h1 (gpos_ge hu (x := a * 256 + n) (l := gpos ppk (a * 256 + n) l + i) (by omega) (by omega))
theorem Eng.Ok.lose {e : Eng} (h : e.Ok) {a n : Nat} (ha : a < 4294967296) (hn : n < 256) (hl : e.lost.length ≤ 799) : (e.lose a n).Ok ∧ (e.lose a n).lost.length ≤ e.lost.length + 1 := by
  unfold Eng.lose
  cases hx : e.isLost a n with
  | true => rw [if_pos rfl]; exact ⟨h, Nat.le_succ _⟩
  | false =>
    rw [if_neg (by decide)]
    have hp := gpos_le ppk (a * 256 + n) e.lost
    have hlen : (e.lost.take (lpos e a n) ++ (a, n) :: e.lost.drop (lpos e a n)).length ≤ e.lost.length + 1 := by
      simp only [List.length_append, List.length_take, List.length_cons, List.length_drop, lpos]; omega
    refine ⟨⟨h.idl, h.nbu, h.nbl, h.nbk, h.ri, h.lok, h.lle, h.chu, h.cho, h.chl, h.owo, h.owl, ppk_up_ins h.lou hx, fun p hp => ?_, by show (e.lost.take _ ++ _ :: e.lost.drop _).length ≤ 800; omega, h.rql, h.cl, h.cts⟩, hlen⟩
    change p ∈ e.lost.take _ ++ (a, n) :: e.lost.drop _ at hp
    rcases List.mem_append.1 hp with hp | hp
    · exact h.loo p (List.mem_of_mem_take hp)
    · rcases List.mem_cons.1 hp with rfl | hp
      · exact ⟨ha, hn⟩
      · exact h.loo p (List.mem_of_mem_drop hp)
theorem miss_any {lo : Nat} {w : World} {q : Nat} {e : Eng} (hok : e.Ok) (a n : Nat) (ha : a < 4294967296) (hn : n < 256) (hl : e.lost.length ≤ 799) (r : Ro) (hra : r.a = a) (hrn : r.n = n) : (e.miss r).Ok ∧ (e.miss r).lost.length ≤ e.lost.length + 1 ∧ (e.miss r).ch = e.ch := by
  subst hra hrn
  unfold Eng.miss
  split
  · exact ⟨hok, Nat.le_succ _, rfl⟩
  · obtain ⟨h1, h2⟩ := hok.lose ha hn hl
    refine ⟨h1, h2, ?_⟩
    unfold Eng.lose; split <;> rfl
theorem choose_same (w : World) (lo q : Nat) (e : Eng) (m : Mem) (h : EngAt lo w q e m) (hok : e.Ok) (A : Option Addr) (c : Nat) (hs : GSl 5 Ro.cl w A e.ch) :
    Calls Tryz.prog 51 #[.pointer (some ⟨q, 0, none⟩), .slice A e.ch.length c] w fun en w' => en = .returned (.tuple #[]) ∧ Below w.heap.size w w' := by
  obtain ⟨A1, c1, hv, -, hs1, -⟩ := gsl_of h.p.ch (fun _ => rfl)
  have c5 := h.ec.c5
  rw [hv] at c5
  have hql := h.lt
  have hc := equal_any w A1 A c1 c e.ch e.ch hs1 hs (by have := hok.chl; omega) (by have := hok.chl; omega)
  rw [decide_eq_true rfl] at hc
  obtain ⟨N, hN⟩ : ∃ N, N = e.ch.length := ⟨_, rfl⟩
  rw [← hN] at hc c5 ⊢
  have HC := Lib.hid hc
  clear hc hv hs1 hs h hok hN
  go_enter Tryz.func51, Tryz.ntmps51
  go_wp2_with (go_at_call 99; (with_reducible refine HC.out.mono ?_); rintro en w' ⟨rfl, B⟩)
  exact bodyPost_ret (v := .tuple #[]) (by simp [results, Tryz.results51, go_sem]) rfl ⟨rfl, B⟩
theorem vc_not {lo : Nat} {w : World} {q : Nat} {e : Eng} {m : Mem} (h : EngAt lo w q e m) {b : Nat} (hb : m.vc.ownBlock = some b) {vw : Value} (hv : vw.ownBlock ≠ some b) : ¬ ({ m with vc := vw } : Mem).X q b := by
  obtain ⟨-, cur, hc⟩ := h.p.ch.lt hb
  obtain ⟨-, vs, hrs, -⟩ := h.p.src
  rintro (hk | hk | hk | hk | hk | hk | hk | hk | hk | hk)
  · subst hk; exact row_ne hc h.row (by decide) rfl
  · exact row_ne hc hrs (by decide) hk
  · exact row_ne hc h.p.rts.row (by decide) hk
  · obtain ⟨l, -, h3⟩ := h.p.lk hk
    exact row_ne hc h3 (by decide) rfl
  · exact h.p.own.ne hc (by decide) hk
  · exact GOwn.ne (t := 173) (k := 7) (cl := E.cl) h.p.rts.own hc (by decide) hk
  · exact h.p.nbs.ne hc (by decide) hk
  · exact hv hk
  · exact h.p.lost.ne hc (by decide) hk
  · exact h.p.rq.ne hc (by decide) hk
def EY (lo : Nat) (w : World) (q : Nat) (m : Mem) (v : Value) (e' : Eng) (w' : World) : Prop := ∃ m', EngAt lo w' q e' m' ∧ Ef lo (fun k => m.X q k ∨ v.ownBlock = some k) w w' ∧ (∀ k, m'.X q k → (m.X q k ∨ v.ownBlock = some k) ∨ w.heap.size ≤ k) ∧ m'.ls = m.ls
theorem xch {m : Mem} {vw : Value} {q k : Nat} (hk : ({ m with vc := vw } : Mem).X q k) : m.X q k ∨ vw.ownBlock = some k := by
  rcases hk with hk | hk | hk | hk | hk | hk | hk | hk | hk | hk
  · exact .inl (.inl hk)
  · exact .inl (.inr (.inl hk))
  · exact .inl (.inr (.inr (.inl hk)))
  · exact .inl (.inr (.inr (.inr (.inl hk))))
  · exact .inl (.inr (.inr (.inr (.inr (.inl hk)))))
  · exact .inl (.inr (.inr (.inr (.inr (.inr (.inl hk))))))
  · exact .inl (.inr (.inr (.inr (.inr (.inr (.inr (.inl hk)))))))
  · exact .inr hk
  · exact .inl (.inr (.inr (.inr (.inr (.inr (.inr (.inr (.inr (.inl hk)))))))))
  · exact .inl (.inr (.inr (.inr (.inr (.inr (.inr (.inr (.inr (.inr hk)))))))))
set_option maxHeartbeats 8000000 in
theorem choose_new (w : World) (lo q : Nat) (e : Eng) (m : Mem) (h : EngAt lo w q e m) (hok : e.Ok) (A : Option Addr) (n c : Nat) (ws : List Ro) (hnw : n = ws.length) (hO : GOwn 40 5 Ro.cl w lo (.slice A n c) ws) (hne : ∀ b, (Value.slice A n c).ownBlock = some b → ¬ m.X q b) (hd : e.ch ≠ ws) (hokw : ({ e with ch := ws, due := true } : Eng).Ok) (hll : e.lost.length + e.ch.length ≤ 800) :
    Calls Tryz.prog 51 #[.pointer (some ⟨q, 0, none⟩), .slice A n c] w fun en w' => en = .returned (.tuple #[]) ∧ EY lo w q m (.slice A n c) (e.choose ws) w' ∧ (e.choose ws).Ok := by
  obtain ⟨A1, c1, hv, -, hs1, hA1⟩ := gsl_of h.p.ch (fun _ => rfl)
  obtain ⟨A2, c2, hv2, -, hs2, -⟩ := gsl_of hO (fun _ => rfl)
  injection hv2 with e1 e2 e3
  subst e1 e3
  have hc := equal_any w A1 A c1 c e.ch ws hs1 hs2 (by have := hok.chl; omega) (by have := hokw.chl; change ws.length ≤ 400 at this; omega)
  rw [decide_eq_false hd, ← hnw] at hc
  have c5 := h.ec.c5
  have hql := h.lt
  obtain ⟨N, hN⟩ : ∃ N, N = e.ch.length := ⟨_, rfl⟩
  rw [hv] at c5
  rw [← hN] at hc c5 hv
  have HC := Lib.hid hc
  have H0 := Lib.hid (And.intro h (And.intro hO (And.intro hne hs1)))
  have HV := Lib.hid hv
  have HLO := Lib.hid h.los
  have HDD := Lib.hid (And.intro hd (And.intro hokw (And.intro hll (And.intro hN (And.intro hok hA1)))))
  have hn9 : N ≤ 400 := by have := hok.chl; omega
  clear hc h hO hne hs1 hs2 hv hok hokw hd hll hnw hN e2 hA1
  go_enter Tryz.func51, Tryz.ntmps51
  go_upto_region 2 with (go_at_call 99; (with_reducible refine HC.out.mono ?_); rintro en w1 ⟨rfl, B⟩; have HB := Lib.hid B; clear B c5)
  have hE1 := H0.out.1.step HB.out
  have hO1 := H0.out.2.1.kept HB.out
  have hP1 := hE1.p.ch' (v' := .slice A n c) (Fr.refl _ _) hO1
  have hE2 := EngAt.put (e' := { e with ch := ws }) (m' := { m with vc := .slice A n c }) hE1.row hE1.le hP1 5 (.slice A n c) rfl
  have hE3 := EngAt.put (e' := { e with ch := ws, due := true }) (m' := { m with vc := .slice A n c }) hE2.row hE2.le ⟨hE2.p.own, hE2.p.src, hE2.p.rts, hE2.p.nbs, hE2.p.lsl, hE2.p.lks, hE2.p.nd, hE2.p.ch, hE2.p.lost, hE2.p.rq, hE2.p.tab, hE2.p.lo0⟩ 11 (.bool true) rfl
  have hF3 : Fr (fun k => k = q) w1 ((w1.setCell ⟨q, 5, none⟩ (.slice A n c)).setCell ⟨q, 11, none⟩ (.bool true)) := (Fr.grown (grown_setCell w1 q 5 (.slice A n c)) (fun k e => (Option.some.inj e).symm)).trans (Fr.grown (grown_setCell _ q 11 (.bool true)) (fun k e => (Option.some.inj e).symm))
  have hec1 := hE1.ec
  have f5 := hec1.fz 5
  have f11 := hec1.fz 11
  have c11 := hec1.c11
  have c5 := hec1.c5
  have hql1 := hE1.lt
  have HE3 := Lib.hid hE3
  have HF3 := Lib.hid hF3
  have HE1 := Lib.hid hE1
  clear hE1 hO1 hP1 hE2 hE3 hF3 hec1 HC
  go_upto_region 4 with (fail)
  clear f5 f11 c11 c5 hql1 hql
  have HGS : Hid (∀ wr, Ef lo (({ m with vc := .slice A n c } : Mem).X q) ((w1.setCell ⟨q, 5, none⟩ (.slice A n c)).setCell ⟨q, 11, none⟩ (.bool true)) wr → GSl 5 Ro.cl wr A1 e.ch) := Lib.hid fun wr f => by
    have hq : ∀ b o, A1 = some ⟨b, o, none⟩ → ¬ b = q := fun b o e9 e8 => by
      subst e8
      have h1 := (HDD.out.2.2.2.2.2 b o e9).1
      obtain ⟨-, cur, hc⟩ := HE1.out.p.ch.lt h1
      exact row_ne hc HE1.out.row (by decide) rfl
    refine ((H0.out.2.2.2.below HB.out).fr HF3.out (fun b o e9 => hq b o e9)).ef f (fun b o e9 => ?_)
    have h1 := (HDD.out.2.2.2.2.2 b o e9).1
    obtain ⟨-, cur, hc⟩ := HE1.out.p.ch.lt h1
    refine ⟨vc_not HE1.out h1 (fun e8 => H0.out.2.2.1 b e8 (.inr (.inr (.inr (.inr (.inr (.inr (.inr (.inl h1))))))))), cur, 40, by decide, HF3.out.row hc (hq b o e9)⟩
  generalize (w1.setCell _ _).setCell _ _ = w2 at *
  go_wp2
  go_loopw [24] (fun i wr => ∃ j : Nat, j ≤ N ∧ i = .int .i64 j ∧ Hid (ES lo w2 q { m with vc := .slice A n c } ((e.ch.take j).foldl Eng.miss { e with ch := ws, due := true }) wr ∧ ((e.ch.take j).foldl Eng.miss { e with ch := ws, due := true }).Ok ∧ ((e.ch.take j).foldl Eng.miss { e with ch := ws, due := true }).lost.length ≤ e.lost.length + j ∧ ((e.ch.take j).foldl Eng.miss { e with ch := ws, due := true }).ch = ws)) (fun i _ => N - (intOf i).toNat)
  case atStart => exact ⟨0, Nat.zero_le _, rfl, ⟨_, HE3.out, Ef.refl _ _ _, fun k hk => Or.inl hk, rfl⟩, HDD.out.2.1, Nat.le_refl _, rfl⟩
  case round =>
    obtain ⟨j, hj, rfl, HR⟩ := hrel
    by_cases hlt : j < N
    · have hjl : j < e.ch.length := by rw [← HDD.out.2.2.2.1]; exact hlt
      obtain ⟨m4, a4, f4, g4, l4⟩ := HR.out.1
      obtain ⟨bb, oo, hA9, hbb, hc0⟩ := HGS.out wr f4 j hjl
      have hc := RoAt.of hc0
      have hnx : (e.ch.take (j + 1)).foldl Eng.miss { e with ch := ws, due := true } = ((e.ch.take j).foldl Eng.miss { e with ch := ws, due := true }).miss e.ch[j] := by
        rw [List.take_succ_eq_append_getElem hjl, List.foldl_append]; rfl
      have hro := HDD.out.2.2.2.2.1.cho _ (List.getElem_mem hjl)
      have hll : ((e.ch.take j).foldl Eng.miss { e with ch := ws, due := true }).lost.length ≤ 799 := by
        have h1 := HR.out.2.2.1
        have h2 := HDD.out.2.2.1
        omega
      have hmo := miss_any (lo := lo) (w := w) (q := q) HR.out.2.1 e.ch[j].a e.ch[j].n hro.1 hro.2.1 hll e.ch[j] rfl rfl
      have HNX : Hid (∀ w', ES lo w2 q { m with vc := .slice A n c } (((e.ch.take j).foldl Eng.miss { e with ch := ws, due := true }).miss e.ch[j]) w' → ES lo w2 q { m with vc := .slice A n c } ((e.ch.take (j + 1)).foldl Eng.miss { e with ch := ws, due := true }) w' ∧ ((e.ch.take (j + 1)).foldl Eng.miss { e with ch := ws, due := true }).Ok ∧ ((e.ch.take (j + 1)).foldl Eng.miss { e with ch := ws, due := true }).lost.length ≤ e.lost.length + (j + 1) ∧ ((e.ch.take (j + 1)).foldl Eng.miss { e with ch := ws, due := true }).ch = ws) := Lib.hid fun w' h9 => by
        rw [hnx]
        exact ⟨h9, hmo.1, by have h1 := hmo.2.1; have h2 := HR.out.2.2.1; omega, hmo.2.2.trans HR.out.2.2.2⟩
      have HOK := Lib.hid (And.intro HR.out.2.1 hll)
      clear HR hnx hmo hll hc0
      generalize (e.ch.take j).foldl Eng.miss { e with ch := ws, due := true } = ej at *
      generalize e.ch[j] = r at *
      have HRO := Lib.hid (And.intro hro.1 hro.2.1)
      have HG4 := Lib.hid (And.intro g4 l4)
      obtain ⟨k0, k1, k2, k3, k4⟩ := hc
      have HV1 := Lib.hid hA9
      subst hA9
      go_upto_region 7 with (fail)
      clear k0 k1 k2 k3 k4 hbb hro
      have BA := (Below.refl wr.heap.size wr).alloc (Nat.le_refl _) (.cells #[.int .u32 (r.a : Int), .int .u8 (r.n : Int), .int .i64 (r.v : Int), .int .u16 (r.m : Int), .int .u16 (r.s : Int)] 40)
      have HX := Lib.hid (heap_alloc_new wr (.cells #[.int .u32 (r.a : Int), .int .u8 (r.n : Int), .int .i64 (r.v : Int), .int .u16 (r.m : Int), .int .u16 (r.s : Int)] 40))
      have HXB := Lib.hid (show ¬ m4.X q wr.heap.size from fun hx => by have := (a4.x_lt hx).2.1; omega)
      have HEX := Lib.hid (And.intro (a4.step BA) (f4.trans (Y := fun _ => False) (Ef.of BA a4.los) (fun k hk => hk.elim)))
      clear BA a4 f4 g4 l4
      generalize wr.alloc _ = wx at *
      generalize wr.heap.size = xb at *
      obtain ⟨x0, x1, x2, x3, x4, -⟩ := row5' HX.out
      have hh := has_any wx lo q ej m4 HEX.out.1 HOK.out.1 r.a r.n HRO.out.2
      have HMS := Lib.hid (show ej.miss r = if ej.hasP r.a r.n then ej else ej.lose r.a r.n from rfl)
      cases hhp : ej.hasP r.a r.n with
      | true =>
        rw [hhp] at hh HMS
        rw [if_pos rfl] at HMS
        have HHC := Lib.hid hh
        clear hh hhp
        go_wp2_with (go_at_call 100; (with_reducible refine HHC.out.mono ?_); rintro en w6 ⟨rfl, B6⟩; have HV := Lib.hid (HNX.out w6 (by rw [HMS.out]; exact ⟨m4, HEX.out.1.step B6, HEX.out.2.trans (Y := fun _ => False) (Ef.of B6 HEX.out.1.los) (fun k hk => hk.elim), HG4.out.1, HG4.out.2⟩)); clear B6)
        go_roundw
        case rel => exact ⟨j + 1, by omega, by go_num, HV.out⟩
        case measure => simp [intOf]; omega
      | false =>
        rw [hhp] at hh HMS
        rw [if_neg (by decide)] at HMS
        have HHC := Lib.hid hh
        clear hh hhp
        go_upto_region 8 with (go_at_call 100; (with_reducible refine HHC.out.mono ?_); rintro en w6 ⟨rfl, B6⟩; have HX6 := Lib.hid (brow B6 HX.out); have HE6 := Lib.hid (And.intro (HEX.out.1.step B6) (HEX.out.2.trans (Y := fun _ => False) (Ef.of B6 HEX.out.1.los) (fun k hk => hk.elim))); clear B6)
        clear x0 x1 x2 x3 x4 HHC HEX HX
        have HE := Lib.hid (And.intro (HE6.out.1.step ((Below.refl _ w6).drew)) (HE6.out.2.trans (Y := fun _ => False) (Ef.of ((Below.refl _ w6).drew) HE6.out.1.los) (fun k hk => hk.elim)))
        have hS0 : w6.drew.heap[xb]? = some (.cells #[.int .u32 (r.a : Int), .int .u8 (r.n : Int), .int .i64 (r.v : Int), .int .u16 (r.m : Int), .int .u16 (r.s : Int)] 40 (0, 0)) := HX6.out
        clear HE6 HX6
        refine wp_region_noPanic ?_
        refine wp_region_held_drew (S := fun y9 : World => y9.heap[xb]? = some (.cells #[.int .u32 (r.a : Int), .int .u8 (r.n : Int), .int .i64 (r.v : Int), .int .u16 (r.m : Int), .int .u16 (r.s : Int)] 40 (0, 0))) (by kernel_rfl) hS0 (fun hHeld => ?_)
        clear hS0
        generalize w6.drew = wd at *
        refine wpAnyH_take (i := 0) (oi := ⟨some 33, .move (.tmp 0), 24, "engine.go:255", #[], none⟩) (v := .pointer (some ⟨q, 0, none⟩)) rfl (by kernel_rfl) (by kernel_rfl) (by kernel_rfl) (fun _ _ _ h => h) (Or.inl ⟨by rfl, fun w hSw => by go_simp⟩) (by assumption) ?_
        try simp only [Act.put, List.setIfInBounds_toArray, List.set_cons_zero, List.set_cons_succ]
        refine wpAnyH_take (i := 1) (oi := ⟨some 34, .nilCheck (.tmp 33), 0, "engine.go:255", #[⟨0, .data⟩], none⟩) (v := .pointer (some ⟨q, 0, none⟩)) rfl (by kernel_rfl) (by kernel_rfl) (by kernel_rfl) (fun _ _ _ h => h) (Or.inl ⟨by rfl, fun w hSw => by go_simp⟩) (by assumption) ?_
        try simp only [Act.put, List.setIfInBounds_toArray, List.set_cons_zero, List.set_cons_succ]
        refine wpAnyH_take (i := 2) (oi := ⟨some 35, .fieldAddr 95 (.tmp 34) 7, 0, "engine.go:255", #[⟨1, .data⟩], none⟩) (v := .pointer (some ⟨q, 10, none⟩)) rfl (by kernel_rfl) (by kernel_rfl) (by kernel_rfl) (fun _ _ _ h => h) (Or.inl ⟨by rfl, fun w hSw => by go_simp⟩) (by assumption) ?_
        try simp only [Act.put, List.setIfInBounds_toArray, List.set_cons_zero, List.set_cons_succ]
        refine wpAnyH_take (i := 3) (oi := ⟨some 36, .fieldAddr 40 (.tmp 6) 0, 0, "engine.go:255", #[], none⟩) (v := .pointer (some ⟨xb, 0, none⟩)) rfl (by kernel_rfl) (by kernel_rfl) (by kernel_rfl) (fun _ _ _ h => h) (Or.inl ⟨by rfl, fun w hSw => by go_simp⟩) (by assumption) ?_
        try simp only [Act.put, List.setIfInBounds_toArray, List.set_cons_zero, List.set_cons_succ]
        refine wpAnyH_take (i := 4) (oi := ⟨some 37, .load 30 (.tmp 36), 30, "engine.go:255", #[⟨3, .data⟩], none⟩) (v := .agg #[.int .u32 (r.a : Int), .int .u8 (r.n : Int)]) rfl (by kernel_rfl) (by kernel_rfl) (by kernel_rfl) (fun _ _ _ h => h) (Or.inl ⟨by rfl, fun w hSw => by obtain ⟨p0, p1, p2, p3, p4, -⟩ := row5' hSw; go_simp⟩) (by assumption) ?_
        try simp only [Act.put, List.setIfInBounds_toArray, List.set_cons_zero, List.set_cons_succ]
        refine wpAnyH_ready (rs := [5]) (by kernel_rfl) (by simp) ?_
        refine (AllReadyH.cons (o := ⟨some 38, .call ⟨.value (.func 101), #[.tmp 35, .tmp 37], #[93, 30]⟩, 0, "engine.go:255", #[⟨2, .data⟩, ⟨4, .data⟩], none⟩) rfl (fun K hK => ?_) AllReadyH.nil)
        have hct := lose_any wd lo q ej m4 HE.out.1 HOK.out.1 r.a r.n HRO.out.2
        go_simp
        with_reducible refine hct.mono ?_
        rintro en wd2 ⟨rfl, hES⟩
        have HV9 := Lib.hid (ES.trans HE.out.2 HG4.out.1 HE.out.2.below.size hES HG4.out.2)
        have hrow2 : wd2.heap[xb]? = some (.cells #[.int .u32 (r.a : Int), .int .u8 (r.n : Int), .int .i64 (r.v : Int), .int .u16 (r.m : Int), .int .u16 (r.s : Int)] 40 (0, 0)) := by
          obtain ⟨m9, -, f9, -⟩ := hES
          exact f9.cells _ _ _ _ hHeld (by decide) HXB.out
        clear hct hES
        refine hK.out _ _ (hrow2) (fun hHeld2 => ?_)
        clear hK K hHeld
        have hHeld := hHeld2
        clear hHeld2
        try simp only [Act.put, List.setIfInBounds_toArray, List.set_cons_zero, List.set_cons_succ]
        clear hrow2 HE
        generalize wd2 = wd at *
        refine wpAnyH_done (by kernel_rfl) ?_ _
        try unfold NoPanic
        clear hHeld
        have HV := Lib.hid (HNX.out wd (by rw [HMS.out]; exact HV9.out))
        go_wp2
        go_roundw
        case rel => exact ⟨j + 1, by omega, by go_num, HV.out⟩
        case measure => simp [intOf]; omega
    · obtain rfl : j = N := by omega
      have hE : e.ch.take j = e.ch := by rw [HDD.out.2.2.2.1, List.take_length]
      rw [hE] at HR
      have hch : e.choose ws = e.ch.foldl Eng.miss { e with ch := ws, due := true } := if_neg HDD.out.1
      go_wp2
      refine bodyPost_end (v := .tuple #[]) (by simp [results, Tryz.results51, go_sem]) rfl ⟨rfl, ?_, by rw [hch]; exact HR.out.2.1⟩
      rw [hch]
      obtain ⟨m9, a9, f9, g9, l9⟩ := HR.out.1
      have hB := HB.out.size
      refine ⟨m9, a9, (((Ef.of (X := fun k => m.X q k ∨ (Value.slice A n c).ownBlock = some k) HB.out HLO.out).trans (Y := fun k => k = q) (Ef.frm HF3.out HE1.out.los (fun k hk => by subst hk; exact HE1.out.le) (fun k hk => hk)) (fun k hk => .inl (.inl (.inl hk)))).trans f9 (fun k hk => .inl (xch hk))), fun k hk => ?_, l9⟩
      rcases g9 k hk with h1 | h1
      · exact .inl (xch h1)
      · exact .inr (Nat.le_trans hB (Nat.le_trans HF3.out.size h1))
end Go.Proofs.YtjbogjbopgcbhaaGreatDoor.Eg
namespace Go.Proofs.YtjbogjbopgcbhaaGreatDoor.Eg
open Pre Ser Rts
open Go.Proofs.YtjbogjbopgcbhaaGreatDoor.Src (row1 row2 Mk SrcAt)
open Go.Proofs.YtjbogjbopgcbhaaGreatDoor.Lk (LkAt)
open Go.ChangeShapes Go.WideShapes Go.ChangeAt Go.RowKit
set_option maxRecDepth 8000
set_option linter.unusedVariables false
set_option linter.unusedSimpArgs false
open Go.Proofs.YtjbogjbopgcbhaaGreatDoor.Src (pv mv)
def Eng.askB (e : Eng) (p : Nat × Nat) : Eng := if (e.f p.1 p.2).isSome = true ∧ e.hasP p.1 p.2 = false then e.ask p.1 p.2 (wantS e.f p.1 p.2) 8 else e
def Eng.askAll (e : Eng) (bs : List (Nat × Nat)) : Eng := bs.foldl Eng.askB e
theorem ask_same (e : Eng) (a n s k : Nat) : (e.ask a n s k).f = e.f ∧ (e.ask a n s k).ch = e.ch ∧ (e.ask a n s k).L = e.L ∧ (e.ask a n s k).c = e.c := by
  unfold Eng.ask; split <;> exact ⟨rfl, rfl, rfl, rfl⟩
theorem askB_same (e : Eng) (p : Nat × Nat) : (e.askB p).f = e.f ∧ (e.askB p).ch = e.ch ∧ (e.askB p).L = e.L := by
  unfold Eng.askB; split
  · have := ask_same e p.1 p.2 (wantS e.f p.1 p.2) 8
    exact ⟨this.1, this.2.1, this.2.2.1⟩
  · exact ⟨rfl, rfl, rfl⟩
theorem Eng.Ok.askB {e : Eng} (h : e.Ok) (p : Nat × Nat) : (e.askB p).Ok := by
  unfold Eng.askB; split
  · exact h.ask ..
  · exact h
theorem blk_ok {f : Mk} {L : List E} {bs : List (Nat × Nat)} (h : BlkOK f L bs) (hL : ∀ e ∈ L, e.Ok) : ∀ p ∈ bs, p.1 < 4294967296 ∧ p.2 < 256 := fun p hp => by
  have h1 := (h.mem p).1 hp
  unfold blk at h1
  rw [Bool.and_eq_true] at h1
  have h2 : (L.filter (ofp p.1 p.2)) ≠ [] := fun e9 => by rw [e9] at h1; simp at h1
  obtain ⟨x, hx⟩ := List.exists_mem_of_ne_nil _ h2
  obtain ⟨hx1, hx2⟩ := List.mem_filter.1 hx
  have h3 := of_decide_eq_true hx2
  have := hL x hx1
  exact ⟨h3.1 ▸ this.a, h3.2 ▸ this.n⟩
set_option maxHeartbeats 8000000 in
theorem askBl_any (w : World) (lo q : Nat) (e : Eng) (m : Mem) (h : EngAt lo w q e m) (hok : e.Ok) :
    Calls Tryz.prog 52 #[.pointer (some ⟨q, 0, none⟩)] w fun en w' => ∃ bs, en = .returned (.tuple #[]) ∧ BlkOK e.f e.L bs ∧ ES lo w q m (e.askAll bs) w' ∧ (e.askAll bs).Ok := by
  have HE := Lib.hid h
  have HBK := Lib.hid (fun W (B : Below w.heap.size w W) => blocked_any W lo m.qr m.vL e.L (h.step B).p.rts hok.ri hok.lok (by have := hok.lle; omega) lo m.qs e.c e.f (h.step B).p.src)
  have HOK0 := Lib.hid hok
  have hle := hok.lle
  have HLE := Lib.hid hle
  clear h hok hle
  go_enter Tryz.func52, Tryz.ntmps52
  go_upto_region 0 with (fail)
  refine wp_region_noPanic ?_
  refine wp_region_held_drew (S := fun y9 : World => Below w.heap.size w y9) (by kernel_rfl) ((Below.refl _ _).drew) (fun hHeld => ?_)
  generalize hwd : w.drew = wd at *
  refine wpAnyH_take (i := 0) (oi := ⟨some 6, .move (.tmp 0), 24, "engine.go:268", #[], none⟩) (v := .pointer (some ⟨q, 0, none⟩)) rfl (by kernel_rfl) (by kernel_rfl) (by kernel_rfl) (fun _ _ _ h => h) (Or.inl ⟨by rfl, fun w hSw => by go_simp⟩) (by assumption) ?_
  try simp only [Act.put, List.setIfInBounds_toArray, List.set_cons_zero, List.set_cons_succ]
  refine wpAnyH_take (i := 1) (oi := ⟨some 7, .nilCheck (.tmp 6), 0, "engine.go:268", #[⟨0, .data⟩], none⟩) (v := .pointer (some ⟨q, 0, none⟩)) rfl (by kernel_rfl) (by kernel_rfl) (by kernel_rfl) (fun _ _ _ h => h) (Or.inl ⟨by rfl, fun w hSw => by go_simp⟩) (by assumption) ?_
  try simp only [Act.put, List.setIfInBounds_toArray, List.set_cons_zero, List.set_cons_succ]
  refine wpAnyH_take (i := 2) (oi := ⟨some 8, .fieldAddr 95 (.tmp 7) 3, 0, "engine.go:268", #[⟨1, .data⟩], none⟩) (v := .pointer (some ⟨q, 3, none⟩)) rfl (by kernel_rfl) (by kernel_rfl) (by kernel_rfl) (fun _ _ _ h => h) (Or.inl ⟨by rfl, fun w hSw => by go_simp⟩) (by assumption) ?_
  try simp only [Act.put, List.setIfInBounds_toArray, List.set_cons_zero, List.set_cons_succ]
  refine wpAnyH_take (i := 3) (oi := ⟨some 9, .load 90 (.tmp 8), 90, "engine.go:268", #[⟨2, .data⟩], none⟩) (v := .pointer (some ⟨m.qr, 0, none⟩)) rfl (by kernel_rfl) (by kernel_rfl) (by kernel_rfl) (fun _ _ _ h => h) (Or.inl ⟨by rfl, fun w hSw => by have c3 := (HE.out.step hSw).ec.c3; go_simp⟩) (by assumption) ?_
  try simp only [Act.put, List.setIfInBounds_toArray, List.set_cons_zero, List.set_cons_succ]
  refine wpAnyH_take (i := 4) (oi := ⟨some 10, .move (.tmp 0), 24, "engine.go:268", #[], none⟩) (v := .pointer (some ⟨q, 0, none⟩)) rfl (by kernel_rfl) (by kernel_rfl) (by kernel_rfl) (fun _ _ _ h => h) (Or.inl ⟨by rfl, fun w hSw => by go_simp⟩) (by assumption) ?_
  try simp only [Act.put, List.setIfInBounds_toArray, List.set_cons_zero, List.set_cons_succ]
  refine wpAnyH_take (i := 5) (oi := ⟨some 11, .nilCheck (.tmp 10), 0, "engine.go:268", #[⟨4, .data⟩], none⟩) (v := .pointer (some ⟨q, 0, none⟩)) rfl (by kernel_rfl) (by kernel_rfl) (by kernel_rfl) (fun _ _ _ h => h) (Or.inl ⟨by rfl, fun w hSw => by go_simp⟩) (by assumption) ?_
  try simp only [Act.put, List.setIfInBounds_toArray, List.set_cons_zero, List.set_cons_succ]
  refine wpAnyH_take (i := 6) (oi := ⟨some 12, .fieldAddr 95 (.tmp 11) 2, 0, "engine.go:268", #[⟨5, .data⟩], none⟩) (v := .pointer (some ⟨q, 2, none⟩)) rfl (by kernel_rfl) (by kernel_rfl) (by kernel_rfl) (fun _ _ _ h => h) (Or.inl ⟨by rfl, fun w hSw => by go_simp⟩) (by assumption) ?_
  try simp only [Act.put, List.setIfInBounds_toArray, List.set_cons_zero, List.set_cons_succ]
  refine wpAnyH_take (i := 7) (oi := ⟨some 13, .load 89 (.tmp 12), 89, "engine.go:268", #[⟨6, .data⟩], none⟩) (v := .pointer (some ⟨m.qs, 0, none⟩)) rfl (by kernel_rfl) (by kernel_rfl) (by kernel_rfl) (fun _ _ _ h => h) (Or.inl ⟨by rfl, fun w hSw => by have c2 := (HE.out.step hSw).ec.c2; go_simp⟩) (by assumption) ?_
  try simp only [Act.put, List.setIfInBounds_toArray, List.set_cons_zero, List.set_cons_succ]
  refine wpAnyH_take (i := 10) (oi := ⟨some 16, .move (.const (.int .i64 0)), 3, "engine.go:268", #[], none⟩) (v := .int .i64 0) rfl (by kernel_rfl) (by kernel_rfl) (by kernel_rfl) (fun _ _ _ h => h) (Or.inl ⟨by rfl, fun w hSw => by go_simp⟩) (by assumption) ?_
  try simp only [Act.put, List.setIfInBounds_toArray, List.set_cons_zero, List.set_cons_succ]
  refine wpAnyH_ready (rs := [8]) (by kernel_rfl) (by simp) ?_
  refine (AllReadyH.cons (o := ⟨some 14, .call ⟨.value (.func 102), #[.tmp 9, .tmp 13], #[90, 89]⟩, 64, "engine.go:268", #[⟨3, .data⟩, ⟨7, .data⟩], none⟩) rfl (fun K hK => ?_) AllReadyH.nil)
  have hct := HBK.out wd hHeld
  go_simp
  with_reducible refine hct.mono ?_
  rintro en wd2 ⟨vv, bs, rfl, hbk, hO, B3, hbl⟩
  obtain ⟨A3, c3, hv3, -, hs3, hA3⟩ := gsl_of hO (fun _ => rfl)
  obtain ⟨N, hN⟩ : ∃ N, N = bs.length := ⟨_, rfl⟩
  rw [← hN] at hv3
  subst hv3
  have HBS := Lib.hid (And.intro hbk (And.intro hs3 (And.intro hbl (And.intro hN (And.intro hA3 (And.intro hO hHeld.size))))))
  refine hK.out _ _ (hHeld.trans (B3.mono hHeld.size)) (fun hHeld2 => ?_)
  clear hK K hHeld
  have hHeld := hHeld2
  clear hHeld2
  try simp only [Act.put, List.setIfInBounds_toArray, List.set_cons_zero, List.set_cons_succ]
  clear hct hbk hO B3 hbl hs3 hN hA3
  generalize wd2 = wd at *
  refine wpAnyH_take (i := 9) (oi := ⟨some 15, .call ⟨.builtin .len, #[.tmp 14], #[64]⟩, 3, "engine.go:268", #[⟨8, .data⟩], none⟩) (v := .int .i64 (N : Nat)) rfl (by kernel_rfl) (by kernel_rfl) (by kernel_rfl) (fun _ _ _ h => h) (Or.inl ⟨by rfl, fun w hSw => by go_simp⟩) (by assumption) ?_
  try simp only [Act.put, List.setIfInBounds_toArray, List.set_cons_zero, List.set_cons_succ]
  refine wpAnyH_done (by kernel_rfl) ?_ _
  try unfold NoPanic
  generalize wd = w9 at *
  have HB := Lib.hid hHeld
  have HGS := Lib.hid (fun wr (f : Ef lo (m.X q) w9 wr) => show GSl 2 clP wr A3 bs from HBS.out.2.1.ef f (fun b o e9 => by
    have h1 := (HBS.out.2.2.2.2.1 b o e9).1
    obtain ⟨h2, cur, hc⟩ := HBS.out.2.2.2.2.2.1.lt h1
    refine ⟨fun hx => ?_, cur, 30, by decide, hc⟩
    have := (HE.out.x_lt hx).2.1
    have := HBS.out.2.2.2.2.2.2
    omega))
  have HPS := Lib.hid (blk_ok HBS.out.1 HOK0.out.lok)
  have hN9 : N ≤ 200 := by have h1 := HBS.out.2.2.2.1; have h2 := HBS.out.2.2.1; have h3 := HLE.out; omega
  clear hHeld hwd HBK
  go_wp2
  go_loopw [16] (fun i wr => ∃ j : Nat, j ≤ N ∧ i = .int .i64 j ∧ Hid (ES lo w9 q m ((bs.take j).foldl Eng.askB e) wr ∧ ((bs.take j).foldl Eng.askB e).Ok ∧ ((bs.take j).foldl Eng.askB e).f = e.f ∧ ((bs.take j).foldl Eng.askB e).ch = e.ch)) (fun i _ => N - (intOf i).toNat)
  case atStart => exact ⟨0, Nat.zero_le _, rfl, ⟨m, HE.out.step HB.out, Ef.refl _ _ _, fun k hk => Or.inl hk, rfl⟩, HOK0.out, rfl, rfl⟩
  case round =>
    obtain ⟨j, hj, rfl, HR⟩ := hrel
    by_cases hlt : j < N
    · have hjl : j < bs.length := by rw [← HBS.out.2.2.2.1]; exact hlt
      obtain ⟨m4, a4, f4, g4, l4⟩ := HR.out.1
      obtain ⟨bb, oo, hA9, hbb, hc0⟩ := HGS.out wr f4 j hjl
      have hc := PxAt.of hc0
      have hnx : (bs.take (j + 1)).foldl Eng.askB e = ((bs.take j).foldl Eng.askB e).askB bs[j] := by
        rw [List.take_succ_eq_append_getElem hjl, List.foldl_append]; rfl
      have hpo := HPS.out _ (List.getElem_mem hjl)
      have HNX := Lib.hid (fun (w' : World) (h9 : ES lo w9 q m (((bs.take j).foldl Eng.askB e).askB bs[j]) w') => show ES lo w9 q m ((bs.take (j + 1)).foldl Eng.askB e) w' ∧ ((bs.take (j + 1)).foldl Eng.askB e).Ok ∧ ((bs.take (j + 1)).foldl Eng.askB e).f = e.f ∧ ((bs.take (j + 1)).foldl Eng.askB e).ch = e.ch by
        rw [hnx]
        have h8 := askB_same ((bs.take j).foldl Eng.askB e) bs[j]
        exact ⟨h9, HR.out.2.1.askB _, h8.1.trans HR.out.2.2.1, h8.2.1.trans HR.out.2.2.2⟩)
      have HOK := Lib.hid HR.out.2.1
      clear HR hnx hc0
      generalize (bs.take j).foldl Eng.askB e = ej at *
      generalize bs[j] = p at *
      obtain ⟨a, n⟩ := p
      simp only at hc hpo HNX
      have HPO := Lib.hid hpo
      have HG4 := Lib.hid (And.intro g4 l4)
      obtain ⟨k0, k1⟩ := hc
      subst hA9
      go_upto_region 3 with (fail)
      clear k0 k1 hbb hpo
      have BA := (Below.refl wr.heap.size wr).alloc (Nat.le_refl _) (.cells #[.int .u32 (a : Int), .int .u8 (n : Int)] 30)
      have HX := Lib.hid (heap_alloc_new wr (.cells #[.int .u32 (a : Int), .int .u8 (n : Int)] 30))
      have HXB := Lib.hid (show ¬ m4.X q wr.heap.size from fun hx => by have := (a4.x_lt hx).2.1; omega)
      have HEX := Lib.hid (And.intro (a4.step BA) (f4.trans (Y := fun _ => False) (Ef.of BA a4.los) (fun k hk => hk.elim)))
      clear BA a4 f4 g4 l4
      generalize wr.alloc _ = wx at *
      generalize wr.heap.size = xb at *
      have hws := fun W (B : Below wx.heap.size wx W) => Wants_any (lo := lo) W m4.qs ej.f ej.c (HEX.out.1.step B).p.src a n HPO.out.1 HPO.out.2
      unfold Src.pv at hws
      cases hf : ej.f a n with
      | none =>
        rw [hf] at hws
        have HWS := Lib.hid hws
        have HMS := Lib.hid (show ej.askB (a, n) = ej by unfold Eng.askB; rw [if_neg (by simp [hf])])
        clear hws hf
        refine wp_region_noPanic ?_
        refine wp_region_held_drew (S := fun y9 : World => Below wx.heap.size wx y9) (by kernel_rfl) ((Below.refl _ _).drew) (fun hHeld => ?_)
        generalize wx.drew = wd at *
        refine wpAnyH_take (i := 0) (oi := ⟨some 21, .move (.tmp 0), 24, "engine.go:269", #[], none⟩) (v := .pointer (some ⟨q, 0, none⟩)) rfl (by kernel_rfl) (by kernel_rfl) (by kernel_rfl) (fun _ _ _ h => h) (Or.inl ⟨by rfl, fun w hSw => by go_simp⟩) (by assumption) ?_
        try simp only [Act.put, List.setIfInBounds_toArray, List.set_cons_zero, List.set_cons_succ]
        refine wpAnyH_take (i := 1) (oi := ⟨some 22, .nilCheck (.tmp 21), 0, "engine.go:269", #[⟨0, .data⟩], none⟩) (v := .pointer (some ⟨q, 0, none⟩)) rfl (by kernel_rfl) (by kernel_rfl) (by kernel_rfl) (fun _ _ _ h => h) (Or.inl ⟨by rfl, fun w hSw => by go_simp⟩) (by assumption) ?_
        try simp only [Act.put, List.setIfInBounds_toArray, List.set_cons_zero, List.set_cons_succ]
        refine wpAnyH_take (i := 2) (oi := ⟨some 23, .fieldAddr 95 (.tmp 22) 2, 0, "engine.go:269", #[⟨1, .data⟩], none⟩) (v := .pointer (some ⟨q, 2, none⟩)) rfl (by kernel_rfl) (by kernel_rfl) (by kernel_rfl) (fun _ _ _ h => h) (Or.inl ⟨by rfl, fun w hSw => by go_simp⟩) (by assumption) ?_
        try simp only [Act.put, List.setIfInBounds_toArray, List.set_cons_zero, List.set_cons_succ]
        refine wpAnyH_take (i := 3) (oi := ⟨some 24, .load 89 (.tmp 23), 89, "engine.go:269", #[⟨2, .data⟩], none⟩) (v := .pointer (some ⟨m4.qs, 0, none⟩)) rfl (by kernel_rfl) (by kernel_rfl) (by kernel_rfl) (fun _ _ _ h => h) (Or.inl ⟨by rfl, fun w hSw => by have c2 := (HEX.out.1.step hSw).ec.c2; go_simp⟩) (by assumption) ?_
        try simp only [Act.put, List.setIfInBounds_toArray, List.set_cons_zero, List.set_cons_succ]
        refine wpAnyH_take (i := 4) (oi := ⟨some 25, .load 30 (.tmp 3), 30, "engine.go:269", #[], none⟩) (v := .agg #[.int .u32 (a : Int), .int .u8 (n : Int)]) rfl (by kernel_rfl) (by kernel_rfl) (by kernel_rfl) (fun _ _ _ h => h) (Or.inl ⟨by rfl, fun w hSw => by obtain ⟨p0, p1, -⟩ := row2 (brow hSw HX.out); go_simp⟩) (by assumption) ?_
        try simp only [Act.put, List.setIfInBounds_toArray, List.set_cons_zero, List.set_cons_succ]
        refine wpAnyH_ready (rs := [5]) (by kernel_rfl) (by simp) ?_
        refine (AllReadyH.cons (o := ⟨some 26, .call ⟨.value (.func 103), #[.tmp 24, .tmp 25], #[89, 30]⟩, 163, "engine.go:269", #[⟨3, .data⟩, ⟨4, .data⟩], none⟩) rfl (fun K hK => ?_) AllReadyH.nil)
        have hct := HWS.out wd hHeld
        go_simp
        with_reducible refine hct.mono ?_
        rintro en wd2 ⟨rfl, B3⟩
        refine hK.out _ _ (hHeld.trans (B3.mono hHeld.size)) (fun hHeld2 => ?_)
        clear hK K hHeld
        have hHeld := hHeld2
        clear hHeld2
        try simp only [Act.put, List.setIfInBounds_toArray, List.set_cons_zero, List.set_cons_succ]
        clear hct B3
        generalize wd2 = wd at *
        refine wpAnyH_take (i := 6) (oi := ⟨some 20, .move (.tmp 26), 163, "engine.go:269", #[⟨5, .data⟩], none⟩) (v := .tuple #[.int .u16 0, .bool false]) rfl (by kernel_rfl) (by kernel_rfl) (by kernel_rfl) (fun _ _ _ h => h) (Or.inl ⟨by rfl, fun w hSw => by go_simp⟩) (by assumption) ?_
        try simp only [Act.put, List.setIfInBounds_toArray, List.set_cons_zero, List.set_cons_succ]
        refine wpAnyH_take (i := 7) (oi := ⟨some 27, .extract (.tmp 20) 0, 22, "engine.go:269", #[⟨6, .data⟩], none⟩) (v := .int .u16 0) rfl (by kernel_rfl) (by kernel_rfl) (by kernel_rfl) (fun _ _ _ h => h) (Or.inl ⟨by rfl, fun w hSw => by go_simp⟩) (by assumption) ?_
        try simp only [Act.put, List.setIfInBounds_toArray, List.set_cons_zero, List.set_cons_succ]
        refine wpAnyH_take (i := 8) (oi := ⟨some 28, .extract (.tmp 20) 1, 4, "engine.go:269", #[⟨6, .data⟩, ⟨9, .gcOnly .lateStores⟩], none⟩) (v := .bool false) rfl (by kernel_rfl) (by kernel_rfl) (by kernel_rfl) (fun _ _ _ h => h) (Or.inl ⟨by rfl, fun w hSw => by go_simp⟩) (by assumption) ?_
        try simp only [Act.put, List.setIfInBounds_toArray, List.set_cons_zero, List.set_cons_succ]
        refine wpAnyH_take (i := 9) (oi := ⟨some 4, .assign (.tmp 27), 22, "engine.go:269", #[⟨7, .data⟩, ⟨5, .chain⟩, ⟨0, .phase⟩, ⟨1, .phase⟩, ⟨2, .phase⟩, ⟨3, .phase⟩, ⟨4, .phase⟩, ⟨5, .phase⟩, ⟨6, .phase⟩, ⟨7, .phase⟩, ⟨8, .textOnly .lateStores⟩], none⟩) (v := .int .u16 0) rfl (by kernel_rfl) (by kernel_rfl) (by kernel_rfl) (fun _ _ _ h => h) (Or.inl ⟨by rfl, fun w hSw => by go_simp⟩) (by assumption) ?_
        try simp only [Act.put, List.setIfInBounds_toArray, List.set_cons_zero, List.set_cons_succ]
        refine wpAnyH_take (i := 10) (oi := ⟨some 5, .assign (.tmp 28), 4, "engine.go:269", #[⟨8, .data⟩, ⟨9, .chain⟩, ⟨0, .phase⟩, ⟨1, .phase⟩, ⟨2, .phase⟩, ⟨3, .phase⟩, ⟨4, .phase⟩, ⟨5, .phase⟩, ⟨6, .phase⟩, ⟨7, .phase⟩, ⟨8, .phase⟩, ⟨9, .phase⟩], none⟩) (v := .bool false) rfl (by kernel_rfl) (by kernel_rfl) (by kernel_rfl) (fun _ _ _ h => h) (Or.inl ⟨by rfl, fun w hSw => by go_simp⟩) (by assumption) ?_
        try simp only [Act.put, List.setIfInBounds_toArray, List.set_cons_zero, List.set_cons_succ]
        refine wpAnyH_done (by kernel_rfl) ?_ _
        try unfold NoPanic
        have HV := Lib.hid (HNX.out wd (by rw [HMS.out]; exact ⟨m4, HEX.out.1.step hHeld, HEX.out.2.trans (Y := fun _ => False) (Ef.of hHeld HEX.out.1.los) (fun k hk => hk.elim), HG4.out.1, HG4.out.2⟩))
        clear hHeld
        go_wp2
        go_roundw
        case rel => exact ⟨j + 1, by omega, by go_num, HV.out⟩
        case measure => simp [intOf]; omega
      | some y =>
        rw [hf] at hws
        obtain ⟨s, hs⟩ : ∃ s : Nat, s = (y.1 + 1) % 65536 := ⟨_, rfl⟩
        have hs2 : (((y.1 : Nat) : Int) + 1) % 65536 = (s : Int) := by omega
        simp only [Option.isSome, hs2] at hws
        have HWS := Lib.hid hws
        have HMS0 := Lib.hid (show ej.askB (a, n) = if ej.hasP a n = false then ej.ask a n s 8 else ej by
          unfold Eng.askB wantS
          rw [hf]
          simp [hs])
        clear hws hf hs2 hs
        refine wp_region_noPanic ?_
        refine wp_region_held_drew (S := fun y9 : World => Below wx.heap.size wx y9) (by kernel_rfl) ((Below.refl _ _).drew) (fun hHeld => ?_)
        generalize wx.drew = wd at *
        refine wpAnyH_take (i := 0) (oi := ⟨some 21, .move (.tmp 0), 24, "engine.go:269", #[], none⟩) (v := .pointer (some ⟨q, 0, none⟩)) rfl (by kernel_rfl) (by kernel_rfl) (by kernel_rfl) (fun _ _ _ h => h) (Or.inl ⟨by rfl, fun w hSw => by go_simp⟩) (by assumption) ?_
        try simp only [Act.put, List.setIfInBounds_toArray, List.set_cons_zero, List.set_cons_succ]
        refine wpAnyH_take (i := 1) (oi := ⟨some 22, .nilCheck (.tmp 21), 0, "engine.go:269", #[⟨0, .data⟩], none⟩) (v := .pointer (some ⟨q, 0, none⟩)) rfl (by kernel_rfl) (by kernel_rfl) (by kernel_rfl) (fun _ _ _ h => h) (Or.inl ⟨by rfl, fun w hSw => by go_simp⟩) (by assumption) ?_
        try simp only [Act.put, List.setIfInBounds_toArray, List.set_cons_zero, List.set_cons_succ]
        refine wpAnyH_take (i := 2) (oi := ⟨some 23, .fieldAddr 95 (.tmp 22) 2, 0, "engine.go:269", #[⟨1, .data⟩], none⟩) (v := .pointer (some ⟨q, 2, none⟩)) rfl (by kernel_rfl) (by kernel_rfl) (by kernel_rfl) (fun _ _ _ h => h) (Or.inl ⟨by rfl, fun w hSw => by go_simp⟩) (by assumption) ?_
        try simp only [Act.put, List.setIfInBounds_toArray, List.set_cons_zero, List.set_cons_succ]
        refine wpAnyH_take (i := 3) (oi := ⟨some 24, .load 89 (.tmp 23), 89, "engine.go:269", #[⟨2, .data⟩], none⟩) (v := .pointer (some ⟨m4.qs, 0, none⟩)) rfl (by kernel_rfl) (by kernel_rfl) (by kernel_rfl) (fun _ _ _ h => h) (Or.inl ⟨by rfl, fun w hSw => by have c2 := (HEX.out.1.step hSw).ec.c2; go_simp⟩) (by assumption) ?_
        try simp only [Act.put, List.setIfInBounds_toArray, List.set_cons_zero, List.set_cons_succ]
        refine wpAnyH_take (i := 4) (oi := ⟨some 25, .load 30 (.tmp 3), 30, "engine.go:269", #[], none⟩) (v := .agg #[.int .u32 (a : Int), .int .u8 (n : Int)]) rfl (by kernel_rfl) (by kernel_rfl) (by kernel_rfl) (fun _ _ _ h => h) (Or.inl ⟨by rfl, fun w hSw => by obtain ⟨p0, p1, -⟩ := row2 (brow hSw HX.out); go_simp⟩) (by assumption) ?_
        try simp only [Act.put, List.setIfInBounds_toArray, List.set_cons_zero, List.set_cons_succ]
        refine wpAnyH_ready (rs := [5]) (by kernel_rfl) (by simp) ?_
        refine (AllReadyH.cons (o := ⟨some 26, .call ⟨.value (.func 103), #[.tmp 24, .tmp 25], #[89, 30]⟩, 163, "engine.go:269", #[⟨3, .data⟩, ⟨4, .data⟩], none⟩) rfl (fun K hK => ?_) AllReadyH.nil)
        have hct := HWS.out wd hHeld
        go_simp
        with_reducible refine hct.mono ?_
        rintro en wd2 ⟨rfl, B3⟩
        refine hK.out _ _ (hHeld.trans (B3.mono hHeld.size)) (fun hHeld2 => ?_)
        clear hK K hHeld
        have hHeld := hHeld2
        clear hHeld2
        try simp only [Act.put, List.setIfInBounds_toArray, List.set_cons_zero, List.set_cons_succ]
        clear hct B3
        generalize wd2 = wd at *
        refine wpAnyH_take (i := 6) (oi := ⟨some 20, .move (.tmp 26), 163, "engine.go:269", #[⟨5, .data⟩], none⟩) (v := .tuple #[.int .u16 (s : Int), .bool true]) rfl (by kernel_rfl) (by kernel_rfl) (by kernel_rfl) (fun _ _ _ h => h) (Or.inl ⟨by rfl, fun w hSw => by go_simp⟩) (by assumption) ?_
        try simp only [Act.put, List.setIfInBounds_toArray, List.set_cons_zero, List.set_cons_succ]
        refine wpAnyH_take (i := 7) (oi := ⟨some 27, .extract (.tmp 20) 0, 22, "engine.go:269", #[⟨6, .data⟩], none⟩) (v := .int .u16 (s : Int)) rfl (by kernel_rfl) (by kernel_rfl) (by kernel_rfl) (fun _ _ _ h => h) (Or.inl ⟨by rfl, fun w hSw => by go_simp⟩) (by assumption) ?_
        try simp only [Act.put, List.setIfInBounds_toArray, List.set_cons_zero, List.set_cons_succ]
        refine wpAnyH_take (i := 8) (oi := ⟨some 28, .extract (.tmp 20) 1, 4, "engine.go:269", #[⟨6, .data⟩, ⟨9, .gcOnly .lateStores⟩], none⟩) (v := .bool true) rfl (by kernel_rfl) (by kernel_rfl) (by kernel_rfl) (fun _ _ _ h => h) (Or.inl ⟨by rfl, fun w hSw => by go_simp⟩) (by assumption) ?_
        try simp only [Act.put, List.setIfInBounds_toArray, List.set_cons_zero, List.set_cons_succ]
        refine wpAnyH_take (i := 9) (oi := ⟨some 4, .assign (.tmp 27), 22, "engine.go:269", #[⟨7, .data⟩, ⟨5, .chain⟩, ⟨0, .phase⟩, ⟨1, .phase⟩, ⟨2, .phase⟩, ⟨3, .phase⟩, ⟨4, .phase⟩, ⟨5, .phase⟩, ⟨6, .phase⟩, ⟨7, .phase⟩, ⟨8, .textOnly .lateStores⟩], none⟩) (v := .int .u16 (s : Int)) rfl (by kernel_rfl) (by kernel_rfl) (by kernel_rfl) (fun _ _ _ h => h) (Or.inl ⟨by rfl, fun w hSw => by go_simp⟩) (by assumption) ?_
        try simp only [Act.put, List.setIfInBounds_toArray, List.set_cons_zero, List.set_cons_succ]
        refine wpAnyH_take (i := 10) (oi := ⟨some 5, .assign (.tmp 28), 4, "engine.go:269", #[⟨8, .data⟩, ⟨9, .chain⟩, ⟨0, .phase⟩, ⟨1, .phase⟩, ⟨2, .phase⟩, ⟨3, .phase⟩, ⟨4, .phase⟩, ⟨5, .phase⟩, ⟨6, .phase⟩, ⟨7, .phase⟩, ⟨8, .phase⟩, ⟨9, .phase⟩], none⟩) (v := .bool true) rfl (by kernel_rfl) (by kernel_rfl) (by kernel_rfl) (fun _ _ _ h => h) (Or.inl ⟨by rfl, fun w hSw => by go_simp⟩) (by assumption) ?_
        try simp only [Act.put, List.setIfInBounds_toArray, List.set_cons_zero, List.set_cons_succ]
        refine wpAnyH_done (by kernel_rfl) ?_ _
        try unfold NoPanic
        have HX6 := Lib.hid (brow hHeld HX.out)
        have HE6 := Lib.hid (And.intro (HEX.out.1.step hHeld) (HEX.out.2.trans (Y := fun _ => False) (Ef.of hHeld HEX.out.1.los) (fun k hk => hk.elim)))
        clear hHeld HX HEX HWS
        generalize wd = w6 at *
        obtain ⟨x0, x1, -⟩ := row2 HX6.out
        have hh := has_any w6 lo q ej m4 HE6.out.1 HOK.out a n HPO.out.2
        cases hhp : ej.hasP a n with
        | true =>
          rw [hhp] at hh HMS0
          rw [if_neg (by decide)] at HMS0
          have HMS := HMS0
          have HHC := Lib.hid hh
          clear hh hhp HMS0
          go_wp2_with (go_at_call 100; (with_reducible refine HHC.out.mono ?_); rintro en w7 ⟨rfl, B7⟩; have HV := Lib.hid (HNX.out w7 (by rw [HMS.out]; exact ⟨m4, HE6.out.1.step B7, HE6.out.2.trans (Y := fun _ => False) (Ef.of B7 HE6.out.1.los) (fun k hk => hk.elim), HG4.out.1, HG4.out.2⟩)); clear B7)
          go_roundw
          case rel => exact ⟨j + 1, by omega, by go_num, HV.out⟩
          case measure => simp [intOf]; omega
        | false =>
          rw [hhp] at hh HMS0
          rw [if_pos rfl] at HMS0
          have HMS := HMS0
          have HHC := Lib.hid hh
          clear hh hhp HMS0
          go_upto_region 5 with (go_at_call 100; (with_reducible refine HHC.out.mono ?_); rintro en w7 ⟨rfl, B7⟩; have HX7 := Lib.hid (brow B7 HX6.out); have HE7 := Lib.hid (And.intro (HE6.out.1.step B7) (HE6.out.2.trans (Y := fun _ => False) (Ef.of B7 HE6.out.1.los) (fun k hk => hk.elim))); clear B7)
          clear x0 x1 HHC HE6 HX6
          have HE := Lib.hid (And.intro (HE7.out.1.step ((Below.refl _ w7).drew)) (HE7.out.2.trans (Y := fun _ => False) (Ef.of ((Below.refl _ w7).drew) HE7.out.1.los) (fun k hk => hk.elim)))
          have hS0 : w7.drew.heap[xb]? = some (.cells #[.int .u32 (a : Int), .int .u8 (n : Int)] 30 (0, 0)) := HX7.out
          clear HE7 HX7
          refine wp_region_noPanic ?_
          refine wp_region_held_drew (S := fun y9 : World => y9.heap[xb]? = some (.cells #[.int .u32 (a : Int), .int .u8 (n : Int)] 30 (0, 0))) (by kernel_rfl) hS0 (fun hHeld => ?_)
          clear hS0
          generalize w7.drew = wd at *
          refine wpAnyH_take (i := 0) (oi := ⟨some 36, .move (.tmp 0), 24, "engine.go:270", #[], none⟩) (v := .pointer (some ⟨q, 0, none⟩)) rfl (by kernel_rfl) (by kernel_rfl) (by kernel_rfl) (fun _ _ _ h => h) (Or.inl ⟨by rfl, fun w hSw => by go_simp⟩) (by assumption) ?_
          try simp only [Act.put, List.setIfInBounds_toArray, List.set_cons_zero, List.set_cons_succ]
          refine wpAnyH_take (i := 1) (oi := ⟨some 37, .nilCheck (.tmp 36), 0, "engine.go:270", #[⟨0, .data⟩], none⟩) (v := .pointer (some ⟨q, 0, none⟩)) rfl (by kernel_rfl) (by kernel_rfl) (by kernel_rfl) (fun _ _ _ h => h) (Or.inl ⟨by rfl, fun w hSw => by go_simp⟩) (by assumption) ?_
          try simp only [Act.put, List.setIfInBounds_toArray, List.set_cons_zero, List.set_cons_succ]
          refine wpAnyH_take (i := 2) (oi := ⟨some 38, .fieldAddr 95 (.tmp 37) 7, 0, "engine.go:270", #[⟨1, .data⟩], none⟩) (v := .pointer (some ⟨q, 10, none⟩)) rfl (by kernel_rfl) (by kernel_rfl) (by kernel_rfl) (fun _ _ _ h => h) (Or.inl ⟨by rfl, fun w hSw => by go_simp⟩) (by assumption) ?_
          try simp only [Act.put, List.setIfInBounds_toArray, List.set_cons_zero, List.set_cons_succ]
          refine wpAnyH_take (i := 3) (oi := ⟨some 39, .load 30 (.tmp 3), 30, "engine.go:270", #[], none⟩) (v := .agg #[.int .u32 (a : Int), .int .u8 (n : Int)]) rfl (by kernel_rfl) (by kernel_rfl) (by kernel_rfl) (fun _ _ _ h => h) (Or.inl ⟨by rfl, fun w hSw => by obtain ⟨p0, p1, -⟩ := row2 hSw; go_simp⟩) (by assumption) ?_
          try simp only [Act.put, List.setIfInBounds_toArray, List.set_cons_zero, List.set_cons_succ]
          refine wpAnyH_take (i := 4) (oi := ⟨some 40, .move (.tmp 4), 22, "engine.go:270", #[], none⟩) (v := .int .u16 (s : Int)) rfl (by kernel_rfl) (by kernel_rfl) (by kernel_rfl) (fun _ _ _ h => h) (Or.inl ⟨by rfl, fun w hSw => by go_simp⟩) (by assumption) ?_
          try simp only [Act.put, List.setIfInBounds_toArray, List.set_cons_zero, List.set_cons_succ]
          refine wpAnyH_ready (rs := [5]) (by kernel_rfl) (by simp) ?_
          refine (AllReadyH.cons (o := ⟨some 41, .call ⟨.value (.func 86), #[.tmp 38, .tmp 39, .tmp 40, .const (.int .u64 8)], #[93, 30, 22, 27]⟩, 0, "engine.go:270", #[⟨2, .data⟩, ⟨3, .data⟩, ⟨4, .data⟩], none⟩) rfl (fun K hK => ?_) AllReadyH.nil)
          have hct : Calls Tryz.prog 86 #[.pointer (some ⟨q, 10, none⟩), .agg #[.int .u32 (a : Int), .int .u8 (n : Int)], .int .u16 (s : Int), .int .u64 8] wd (fun en w' => en = .returned (.tuple #[]) ∧ ES lo wd q m4 (ej.ask a n s 8) w') := ask_any wd lo q ej m4 HE.out.1 HOK.out a n s 8
          have hxb := HXB.out
          go_simp
          with_reducible refine hct.mono ?_
          rintro en wd2 ⟨rfl, hES⟩
          have HV9 := Lib.hid (ES.trans HE.out.2 HG4.out.1 HE.out.2.below.size hES HG4.out.2)
          have hrow2 : wd2.heap[xb]? = some (.cells #[.int .u32 (a : Int), .int .u8 (n : Int)] 30 (0, 0)) := by
            obtain ⟨m9, -, f9, -⟩ := hES
            exact f9.cells _ _ _ _ hHeld (by decide) HXB.out
          clear hct hES hxb
          refine hK.out _ _ (hrow2) (fun hHeld2 => ?_)
          clear hK K hHeld
          have hHeld := hHeld2
          clear hHeld2
          try simp only [Act.put, List.setIfInBounds_toArray, List.set_cons_zero, List.set_cons_succ]
          clear hrow2 HE
          generalize wd2 = wd at *
          refine wpAnyH_done (by kernel_rfl) ?_ _
          try unfold NoPanic
          clear hHeld
          have HV := Lib.hid (HNX.out wd (by rw [HMS.out]; exact HV9.out))
          go_wp2
          go_roundw
          case rel => exact ⟨j + 1, by omega, by go_num, HV.out⟩
          case measure => simp [intOf]; omega
    · obtain rfl : j = N := by omega
      have hE : bs.take j = bs := by rw [HBS.out.2.2.2.1, List.take_length]
      rw [hE] at HR
      go_wp2
      exact bodyPost_end (v := .tuple #[]) (by simp [results, Tryz.results52, go_sem]) rfl ⟨bs, rfl, HBS.out.1, ES.trans (m := m) (Ef.of HB.out HE.out.los) (fun k hk => Or.inl hk) HB.out.size HR.out.1, HR.out.2.1⟩
end Go.Proofs.YtjbogjbopgcbhaaGreatDoor.Eg
namespace Go.Proofs.YtjbogjbopgcbhaaGreatDoor.Eg
open Pre Ser Rts
open Go.Proofs.YtjbogjbopgcbhaaGreatDoor.Src (row1 row2 Mk SrcAt)
open Go.Proofs.YtjbogjbopgcbhaaGreatDoor.Lk (LkAt)
open Go.ChangeShapes Go.WideShapes Go.ChangeAt Go.RowKit
set_option maxRecDepth 8000
set_option linter.unusedVariables false
set_option linter.unusedSimpArgs false
open Go.Proofs.YtjbogjbopgcbhaaGreatDoor.Src (pv mv)
def wayOf (cf : Nat → Nat) (x : E) : Ro := ⟨x.a, x.n, x.b, x.m + cf x.b, x.s⟩
theorem fold_mem (cf : Nat → Nat) (f : Mk) : ∀ (G : List E) (x0 : Nat × Ro), x0.1 ≤ 65535 → G.foldl (stp cf f) x0 = x0 ∨ ∃ x ∈ G, G.foldl (stp cf f) x0 = (x.m + cf x.b, wayOf cf x) ∧ feasE f x = true ∧ x.m + cf x.b < 65535
  | [], x0, _ => Or.inl rfl
  | g :: G, x0, h0 => by
    rw [List.foldl_cons]
    rcases fold_mem cf f G (stp cf f x0 g) (stp_le h0) with h | ⟨x, hx, h1, h2, h3⟩
    · rw [h]
      unfold stp
      by_cases hc : g.m + cf g.b < x0.1 ∧ feasE f g = true
      · rw [if_pos hc]
        exact Or.inr ⟨g, List.mem_cons_self .., rfl, hc.2, by omega⟩
      · rw [if_neg hc]; exact Or.inl rfl
    · exact Or.inr ⟨x, List.mem_cons_of_mem _ hx, h1, h2, h3⟩
theorem sel_mem {cf : Nat → Nat} {f : Mk} {L : List E} {rs : List Ro} (h : SelOK cf f L rs) {r : Ro} (hr : r ∈ rs) : ∃ x ∈ L, r = wayOf cf x ∧ feasE f x = true ∧ x.m + cf x.b < 65535 := by
  have h1 := (h.mem r).1 hr
  unfold selP at h1
  split at h1
  · rename_i hlt
    injection h1 with h1
    unfold short at h1 hlt
    rcases fold_mem cf f (L.filter (ofp r.a r.n)) (65535, Ro.zero) (Nat.le_refl _) with h2 | ⟨x, hx, h2, h3, h4⟩
    · rw [h2] at hlt; exact absurd hlt (Nat.lt_irrefl _)
    · rw [h2] at h1
      exact ⟨x, (List.mem_filter.1 hx).1, h1.symm, h3, h4⟩
  · cases h1
structure Eng.SelOk (e : Eng) : Prop where
  right : ∀ x ∈ e.L, Pre.right x.a x.n = true
  apart : ∀ h ∈ e.own, ∀ x ∈ e.L, ¬ (h.a = x.a ∧ h.n = x.n)
  own : e.own.Pairwise fun g h => ¬ (g.a = h.a ∧ g.n = h.n)
  room : e.c + e.own.length + e.L.length ≤ 230
  lost : e.lost.length + e.ch.length ≤ 800
def Eng.cf (e : Eng) (k : Nat) : Nat := if k < 16 then e.cost k else 65535
def Eng.ways (e : Eng) (rs : List Ro) : List Ro := e.own.map (ownRo e.id) ++ rs
theorem Eng.SelOk.row {e : Eng} (h : e.SelOk) (hok : e.Ok) {rs : List Ro} (S : SelOK e.cf e.f e.L rs) : ∀ r ∈ e.ways rs, (r.a < 4294967296 ∧ r.n < 256 ∧ Pre.right r.a r.n = true ∧ r.m < 65535) ∧ r.s < 65536 := by
  intro r hr
  rcases List.mem_append.1 hr with hr | hr
  · obtain ⟨g, hg, rfl⟩ := List.mem_map.1 hr
    obtain ⟨h1, h2, h3, h4⟩ := hok.owo g hg
    exact ⟨⟨h1, h3, h2, Nat.zero_lt_succ _⟩, h4⟩
  · obtain ⟨x, hx, rfl, -, h4⟩ := sel_mem S hr
    have := hok.lok x hx
    exact ⟨⟨this.a, this.n, h.right x hx, h4⟩, this.s⟩
theorem Eng.SelOk.sel_len {e : Eng} (h : e.SelOk) {rs : List Ro} (hl : rs.length ≤ e.L.length) : (e.ways rs).length ≤ e.own.length + e.L.length := by
  unfold Eng.ways
  rw [List.length_append, List.length_map]; omega
theorem Eng.SelOk.ne {e : Eng} (h : e.SelOk) (hok : e.Ok) {rs : List Ro} (S : SelOK e.cf e.f e.L rs) : (e.ways rs).Pairwise fun x y => x.pk ≠ y.pk := by
  have key : ∀ {a n b k : Nat}, n < 256 → k < 256 → a * 256 + n = b * 256 + k → a = b ∧ n = k := fun h1 h2 h3 => by omega
  unfold Eng.ways
  refine List.pairwise_append.2 ⟨?_, S.up.imp fun h => Nat.ne_of_lt h, fun x hx y hy e9 => ?_⟩
  · refine List.pairwise_map.2 (List.Pairwise.imp_of_mem ?_ h.own)
    intro g k hg hk hne e9
    exact hne (key (hok.owo g hg).2.2.1 (hok.owo k hk).2.2.1 e9)
  · obtain ⟨g, hg, rfl⟩ := List.mem_map.1 hx
    obtain ⟨z, hz, rfl, -, -⟩ := sel_mem S hy
    exact h.apart g hg z hz (key (hok.owo g hg).2.2.1 (hok.lok z hz).n e9)
theorem up_of {ts ws : List Ro} (hp : ts.Perm ws) (hn : ∀ r ∈ ws, r.n < 256) (hne : ws.Pairwise fun x y => x.pk ≠ y.pk) (hs : ∀ i j (hi : i < j) (hj : j < ts.length), ltOf cmR ts[j] (ts[i]'(Nat.lt_trans hi hj)) = false) : GUp Ro.pk ts := by
  have hne2 : ts.Pairwise fun x y => x.pk ≠ y.pk := (hp.pairwise_iff (fun {x y} h e9 => h e9.symm)).2 hne
  refine List.pairwise_iff_getElem.2 fun i j hi hj hij => ?_
  have h1 := hs i j hij hj
  have h2 := List.pairwise_iff_getElem.1 hne2 i j hi hj hij
  have h3 : ¬ (ts[j].a < ts[i].a ∨ ts[j].a = ts[i].a ∧ ts[j].n < ts[i].n) := fun h => by
    rw [(cmR_lt _ _).2 h] at h1; cases h1
  have n1 := hn _ (hp.mem_iff.1 (List.getElem_mem hi))
  have n2 := hn _ (hp.mem_iff.1 (List.getElem_mem hj))
  unfold Ro.pk at h2 ⊢
  omega
theorem lows_same : ∀ (ws : List Ro) (e : Eng), e.lows ws = { e with f := (e.lows ws).f, c := (e.lows ws).c }
  | [], e => rfl
  | r :: ws, e => by
    have h := lows_same ws (e.low1 r)
    have h1 : e.lows (r :: ws) = (e.low1 r).lows ws := rfl
    rw [h1]
    generalize (e.low1 r).lows ws = z at *
    rw [h]; rfl
theorem Eng.SelOk.lows {e : Eng} (h : e.SelOk) (hok : e.Ok) {rs : List Ro} (S : SelOK e.cf e.f e.L rs) (hl : rs.length ≤ e.L.length) : (e.lows (e.ways rs)).Ok := by
  have h1 := lows_c (e.ways rs) e
  have h2 := h.sel_len hl
  have h3 := h.room
  rw [lows_same]
  exact ⟨hok.idl, hok.nbu, hok.nbl, hok.nbk, hok.ri, hok.lok, hok.lle, hok.chu, hok.cho, hok.chl, hok.owo, hok.owl, hok.lou, hok.loo, hok.lol, hok.rql, by show (e.lows (e.ways rs)).c ≤ 230; omega, hok.cts⟩
theorem Eng.SelOk.chosen {e : Eng} (h : e.SelOk) (hok : e.Ok) {rs ts : List Ro} (S : SelOK e.cf e.f e.L rs) (hl : rs.length ≤ e.L.length) (hp : ts.Perm (e.ways rs)) (hu : GUp Ro.pk ts) : ({ e.lows (e.ways rs) with ch := ts, due := true } : Eng).Ok := by
  have h0 := h.lows hok S hl
  have h2 := h.sel_len hl
  have h3 := h.room
  exact ⟨h0.idl, h0.nbu, h0.nbl, h0.nbk, h0.ri, h0.lok, h0.lle, hu, fun r hr => by
    have := h.row hok S r (hp.mem_iff.1 hr)
    exact ⟨this.1.1, this.1.2.1, by omega, this.2⟩, by rw [hp.length_eq]; omega, h0.owo, h0.owl, h0.lou, h0.loo, h0.lol, h0.rql, h0.cl, h0.cts⟩
end Go.Proofs.YtjbogjbopgcbhaaGreatDoor.Eg
namespace Go.Proofs.YtjbogjbopgcbhaaGreatDoor.Eg
open Pre Ser Rts
open Go.Proofs.YtjbogjbopgcbhaaGreatDoor.Src (row1 row2 Mk SrcAt)
open Go.Proofs.YtjbogjbopgcbhaaGreatDoor.Lk (LkAt)
open Go.ChangeShapes Go.WideShapes Go.ChangeAt Go.RowKit
set_option maxRecDepth 8000
set_option linter.unusedVariables false
set_option linter.unusedSimpArgs false
open Go.Proofs.YtjbogjbopgcbhaaGreatDoor.Src (pv mv)
theorem Ef.below_size {lo : Nat} {X : Nat → Prop} {w w' : World} (h : Ef lo X w w') : w.heap.size ≤ w'.heap.size := h.below.size
theorem lose_keeps (e : Eng) (a n : Nat) : (e.lose a n).ch = e.ch ∧ (e.lose a n).f = e.f ∧ (e.lose a n).L = e.L := by
  unfold Eng.lose; split <;> exact ⟨rfl, rfl, rfl⟩
theorem miss_keeps (e : Eng) (r : Ro) : (e.miss r).ch = e.ch ∧ (e.miss r).f = e.f ∧ (e.miss r).L = e.L := by
  unfold Eng.miss; split
  · exact ⟨rfl, rfl, rfl⟩
  · exact lose_keeps e r.a r.n
theorem missAll_keeps : ∀ (l : List Ro) (e : Eng), (l.foldl Eng.miss e).ch = e.ch ∧ (l.foldl Eng.miss e).f = e.f ∧ (l.foldl Eng.miss e).L = e.L
  | [], e => ⟨rfl, rfl, rfl⟩
  | r :: l, e => by
    have h1 := missAll_keeps l (e.miss r)
    have h2 := miss_keeps e r
    exact ⟨h1.1.trans h2.1, h1.2.1.trans h2.2.1, h1.2.2.trans h2.2.2⟩
theorem choose_keeps (e : Eng) (ws : List Ro) : (e.choose ws).ch = ws ∧ (e.choose ws).f = e.f ∧ (e.choose ws).L = e.L := by
  unfold Eng.choose; split
  · rename_i h; exact ⟨h, rfl, rfl⟩
  · exact missAll_keeps e.ch _
theorem askAll_ch : ∀ (bs : List (Nat × Nat)) (e : Eng), (e.askAll bs).ch = e.ch
  | [], e => rfl
  | b :: bs, e => (askAll_ch bs (e.askB b)).trans (askB_same e b).2.1
theorem choose_any (w : World) (lo q : Nat) (e : Eng) (m : Mem) (h : EngAt lo w q e m) (hok : e.Ok) (A : Option Addr) (n c : Nat) (ws : List Ro) (hnw : n = ws.length) (hO : GOwn 40 5 Ro.cl w lo (.slice A n c) ws) (hne : ∀ b, (Value.slice A n c).ownBlock = some b → ¬ m.X q b) (hokw : ({ e with ch := ws, due := true } : Eng).Ok) (hll : e.lost.length + e.ch.length ≤ 800) :
    Calls Tryz.prog 51 #[.pointer (some ⟨q, 0, none⟩), .slice A n c] w fun en w' => en = .returned (.tuple #[]) ∧ EY lo w q m (.slice A n c) (e.choose ws) w' ∧ (e.choose ws).Ok := by
  by_cases hd : e.ch = ws
  · obtain ⟨A2, c2, hv2, -, hs2, -⟩ := gsl_of hO (fun _ => rfl)
    injection hv2 with e1 e2 e3
    subst e1 e3
    have hct := choose_same w lo q e m h hok A c (by rw [hd]; exact hs2)
    rw [hd, ← hnw] at hct
    refine hct.mono ?_
    rintro en w' ⟨rfl, B⟩
    have hc : e.choose ws = e := if_pos hd
    rw [hc]
    exact ⟨rfl, ⟨m, h.step B, Ef.of B h.los, fun k hk => Or.inl (Or.inl hk), rfl⟩, hok⟩
  · exact choose_new w lo q e m h hok A n c ws hnw hO hne hd hokw hll
def SelSaid (lo : Nat) (w : World) (q : Nat) (e : Eng) (m : Mem) (en : Ending) (w' : World) : Prop := ∃ v' rs ts bs, en = .returned v' ∧ SelOK e.cf e.f e.L rs ∧ rs.length ≤ e.L.length ∧ ts.Perm (e.ways rs) ∧ GUp Ro.pk ts ∧ BlkOK (e.lows (e.ways rs)).f e.L bs ∧ (∃ m', EngAt lo w' q (((e.lows (e.ways rs)).choose ts).askAll bs) m' ∧ Ef lo (m.X q) w w' ∧ (∀ k, m'.X q k → m.X q k ∨ w.heap.size ≤ k) ∧ m'.ls = m.ls ∧ ∀ b, v'.ownBlock = some b → ¬ m'.X q b) ∧ (((e.lows (e.ways rs)).choose ts).askAll bs).Ok ∧ GOwn 40 5 Ro.cl w' w.heap.size v' ts
set_option maxHeartbeats 8000000 in
theorem select_eng (w : World) (lo q : Nat) (e : Eng) (m : Mem) (h : EngAt lo w q e m) (hok : e.Ok) (hsk : e.SelOk) :
    Calls Tryz.prog 17 #[.pointer (some ⟨q, 0, none⟩)] w (SelSaid lo w q e m) := by
  have HE := Lib.hid h
  have HOK := Lib.hid hok
  have HSK := Lib.hid hsk
  clear h hok hsk
  go_enter Tryz.func17, Tryz.ntmps17
  go_upto_region 3 with (fail)
  have HB := Lib.hid ((Below.refl w.heap.size w).drew)
  refine wp_region_noPanic ?_
  refine wp_region_held_drew (S := fun y9 : World => y9.cell? ⟨q, 2, none⟩ = some (.pointer (some ⟨m.qs, 0, none⟩)) ∧ y9.cell? ⟨q, 3, none⟩ = some (.pointer (some ⟨m.qr, 0, none⟩))) (by kernel_rfl) ⟨(HE.out.step HB.out).ec.c2, (HE.out.step HB.out).ec.c3⟩ (fun hHeld => ?_)
  generalize w.drew = wd at *
  refine wpAnyH_take (i := 0) (oi := ⟨some 6, .move (.tmp 0), 24, "engine.go:193", #[], none⟩) (v := .pointer (some ⟨q, 0, none⟩)) rfl (by kernel_rfl) (by kernel_rfl) (by kernel_rfl) (fun _ _ _ h => h) (Or.inl ⟨by rfl, fun w hSw => by go_simp⟩) (by assumption) ?_
  try simp only [Act.put, List.setIfInBounds_toArray, List.set_cons_zero, List.set_cons_succ]
  refine wpAnyH_take (i := 1) (oi := ⟨some 7, .move (.tmp 0), 24, "engine.go:193", #[], none⟩) (v := .pointer (some ⟨q, 0, none⟩)) rfl (by kernel_rfl) (by kernel_rfl) (by kernel_rfl) (fun _ _ _ h => h) (Or.inl ⟨by rfl, fun w hSw => by go_simp⟩) (by assumption) ?_
  try simp only [Act.put, List.setIfInBounds_toArray, List.set_cons_zero, List.set_cons_succ]
  refine wpAnyH_take (i := 3) (oi := ⟨some 9, .move (.tmp 0), 24, "engine.go:193", #[], none⟩) (v := .pointer (some ⟨q, 0, none⟩)) rfl (by kernel_rfl) (by kernel_rfl) (by kernel_rfl) (fun _ _ _ h => h) (Or.inl ⟨by rfl, fun w hSw => by go_simp⟩) (by assumption) ?_
  try simp only [Act.put, List.setIfInBounds_toArray, List.set_cons_zero, List.set_cons_succ]
  refine wpAnyH_take (i := 4) (oi := ⟨some 10, .nilCheck (.tmp 9), 0, "engine.go:193", #[⟨3, .data⟩], none⟩) (v := .pointer (some ⟨q, 0, none⟩)) rfl (by kernel_rfl) (by kernel_rfl) (by kernel_rfl) (fun _ _ _ h => h) (Or.inl ⟨by rfl, fun w hSw => by go_simp⟩) (by assumption) ?_
  try simp only [Act.put, List.setIfInBounds_toArray, List.set_cons_zero, List.set_cons_succ]
  refine wpAnyH_take (i := 5) (oi := ⟨some 11, .fieldAddr 95 (.tmp 10) 3, 0, "engine.go:193", #[⟨4, .data⟩], none⟩) (v := .pointer (some ⟨q, 3, none⟩)) rfl (by kernel_rfl) (by kernel_rfl) (by kernel_rfl) (fun _ _ _ h => h) (Or.inl ⟨by rfl, fun w hSw => by go_simp⟩) (by assumption) ?_
  try simp only [Act.put, List.setIfInBounds_toArray, List.set_cons_zero, List.set_cons_succ]
  refine wpAnyH_take (i := 6) (oi := ⟨some 12, .load 90 (.tmp 11), 90, "engine.go:193", #[⟨5, .data⟩], none⟩) (v := .pointer (some ⟨m.qr, 0, none⟩)) rfl (by kernel_rfl) (by kernel_rfl) (by kernel_rfl) (fun _ _ _ h => h) (Or.inl ⟨by rfl, fun w hSw => by have c3 := hSw.2; go_simp⟩) (by assumption) ?_
  try simp only [Act.put, List.setIfInBounds_toArray, List.set_cons_zero, List.set_cons_succ]
  refine wpAnyH_take (i := 7) (oi := ⟨some 13, .move (.tmp 0), 24, "engine.go:193", #[], none⟩) (v := .pointer (some ⟨q, 0, none⟩)) rfl (by kernel_rfl) (by kernel_rfl) (by kernel_rfl) (fun _ _ _ h => h) (Or.inl ⟨by rfl, fun w hSw => by go_simp⟩) (by assumption) ?_
  try simp only [Act.put, List.setIfInBounds_toArray, List.set_cons_zero, List.set_cons_succ]
  refine wpAnyH_take (i := 8) (oi := ⟨some 14, .nilCheck (.tmp 13), 0, "engine.go:193", #[⟨7, .data⟩], none⟩) (v := .pointer (some ⟨q, 0, none⟩)) rfl (by kernel_rfl) (by kernel_rfl) (by kernel_rfl) (fun _ _ _ h => h) (Or.inl ⟨by rfl, fun w hSw => by go_simp⟩) (by assumption) ?_
  try simp only [Act.put, List.setIfInBounds_toArray, List.set_cons_zero, List.set_cons_succ]
  refine wpAnyH_take (i := 9) (oi := ⟨some 15, .fieldAddr 95 (.tmp 14) 2, 0, "engine.go:193", #[⟨8, .data⟩], none⟩) (v := .pointer (some ⟨q, 2, none⟩)) rfl (by kernel_rfl) (by kernel_rfl) (by kernel_rfl) (fun _ _ _ h => h) (Or.inl ⟨by rfl, fun w hSw => by go_simp⟩) (by assumption) ?_
  try simp only [Act.put, List.setIfInBounds_toArray, List.set_cons_zero, List.set_cons_succ]
  refine wpAnyH_take (i := 10) (oi := ⟨some 16, .load 89 (.tmp 15), 89, "engine.go:193", #[⟨9, .data⟩], none⟩) (v := .pointer (some ⟨m.qs, 0, none⟩)) rfl (by kernel_rfl) (by kernel_rfl) (by kernel_rfl) (fun _ _ _ h => h) (Or.inl ⟨by rfl, fun w hSw => by have c2 := hSw.1; go_simp⟩) (by assumption) ?_
  try simp only [Act.put, List.setIfInBounds_toArray, List.set_cons_zero, List.set_cons_succ]
  refine wpAnyH_take (i := 11) (oi := ⟨some 17, .move (.tmp 0), 24, "engine.go:193", #[], none⟩) (v := .pointer (some ⟨q, 0, none⟩)) rfl (by kernel_rfl) (by kernel_rfl) (by kernel_rfl) (fun _ _ _ h => h) (Or.inl ⟨by rfl, fun w hSw => by go_simp⟩) (by assumption) ?_
  try simp only [Act.put, List.setIfInBounds_toArray, List.set_cons_zero, List.set_cons_succ]
  refine wpAnyH_ready (rs := [2]) (by kernel_rfl) (by simp) ?_
  refine (AllReadyH.cons (o := ⟨some 8, .call ⟨.value (.func 45), #[.tmp 7], #[24]⟩, 37, "engine.go:193", #[⟨1, .data⟩], none⟩) rfl (fun K hK => ?_) AllReadyH.nil)
  have hct := ownWays_any wd lo q e m (HE.out.step HB.out) HOK.out
  go_simp
  with_reducible refine hct.mono ?_
  rintro en wd2 ⟨vo, rfl, hO, B3⟩
  have HB2 := Lib.hid (HB.out.trans (B3.mono HB.out.size))
  have HG := Lib.hid (gtop hO HB.out.size)
  refine hK.out _ _ (⟨(HE.out.step HB2.out).ec.c2, (HE.out.step HB2.out).ec.c3⟩) (fun hHeld2 => ?_)
  clear hK K hHeld
  have hHeld := hHeld2
  clear hHeld2
  try simp only [Act.put, List.setIfInBounds_toArray, List.set_cons_zero, List.set_cons_succ]
  clear hct hO B3
  clear HB
  generalize wd2 = wd at *
  have HB := HB2
  clear HB2
  refine wpAnyH_ready (rs := [12]) (by kernel_rfl) (by simp) ?_
  refine (AllReadyH.cons (o := ⟨some 18, .call ⟨.value (.func 47), #[.tmp 17], #[24]⟩, 104, "engine.go:193", #[⟨11, .data⟩, ⟨2, .chain⟩], none⟩) rfl (fun K hK => ?_) AllReadyH.nil)
  have hct := costs_any wd lo q e m (HE.out.step HB.out) HOK.out
  go_simp
  with_reducible refine hct.mono ?_
  rintro en wd2 ⟨z, rfl, hco, B3⟩
  have HB2 := Lib.hid (HB.out.trans (B3.mono HB.out.size))
  have HG2 := Lib.hid (HG.out.kept B3)
  have HCO := Lib.hid (show CostAt wd2 (some ⟨z, 0, none⟩) 16 e.cf from hco)
  refine hK.out _ _ (⟨(HE.out.step HB2.out).ec.c2, (HE.out.step HB2.out).ec.c3⟩) (fun hHeld2 => ?_)
  clear hK K hHeld
  have hHeld := hHeld2
  clear hHeld2
  try simp only [Act.put, List.setIfInBounds_toArray, List.set_cons_zero, List.set_cons_succ]
  clear hct hco B3 HG
  clear HB
  generalize wd2 = wd at *
  have HB := HB2
  clear HB2
  have HG := HG2
  clear HG2
  refine wpAnyH_ready (rs := [13]) (by kernel_rfl) (by simp) ?_
  refine (AllReadyH.cons (o := ⟨some 19, .call ⟨.value (.func 46), #[.tmp 12, .tmp 16, .tmp 18], #[90, 89, 104]⟩, 37, "engine.go:193", #[⟨6, .data⟩, ⟨10, .data⟩, ⟨12, .data⟩, ⟨12, .chain⟩], none⟩) rfl (fun K hK => ?_) AllReadyH.nil)
  have hct := select_any wd lo m.qr m.vL e.L (HE.out.step HB.out).p.rts HOK.out.ri HOK.out.lok (by have := HOK.out.lle; omega) lo m.qs e.c e.f (HE.out.step HB.out).p.src (some ⟨z, 0, none⟩) 16 16 e.cf HCO.out
  go_simp
  with_reducible refine hct.mono ?_
  rintro en wd2 ⟨vv, rs, rfl, hsel, hO, B3, hrl⟩
  have HB2 := Lib.hid (HB.out.trans (B3.mono HB.out.size))
  have HG2 := Lib.hid (HG.out.kept B3)
  obtain ⟨A4, c4, hv4, -, hs4, -⟩ := gsl_of hO (fun _ => rfl)
  have hc0 : A4 = none → c4 = 0 := fun h9 => by
    rcases hO.2 with ⟨h8, -⟩ | ⟨g, cap, cur, h8, -⟩
    · rw [hv4] at h8; injection h8
    · rw [hv4, h9] at h8; injection h8 with h7; cases h7
  obtain ⟨N4, hN4⟩ : ∃ N4, N4 = rs.length := ⟨_, rfl⟩
  rw [← hN4] at hv4
  subst hv4
  have HS4 := Lib.hid (And.intro hs4 (And.intro hc0 hN4))
  have HSEL := Lib.hid (And.intro hsel hrl)
  refine hK.out _ _ (⟨(HE.out.step HB2.out).ec.c2, (HE.out.step HB2.out).ec.c3⟩) (fun hHeld2 => ?_)
  clear hK K hHeld
  have hHeld := hHeld2
  clear hHeld2
  try simp only [Act.put, List.setIfInBounds_toArray, List.set_cons_zero, List.set_cons_succ]
  clear hct hO B3 HG HCO hs4 hc0 hN4 hsel hrl
  clear HB
  generalize wd2 = wd at *
  have HB := HB2
  clear HB2
  have HG := HG2
  clear HG2
  refine wpAnyH_ready (rs := [14]) (by kernel_rfl) (by simp) ?_
  refine (AllReadyH.cons (o := ⟨some 20, .call ⟨.builtin .append, #[.tmp 8, .tmp 19], #[37, 37]⟩, 37, "engine.go:193", #[⟨2, .data⟩, ⟨13, .data⟩, ⟨13, .chain⟩], none⟩) rfl (fun K hK => ?_) AllReadyH.nil)
  have hN4 : N4 ≤ 200 := by have h1 := HS4.out.2.2; have h2 := HSEL.out.2; have h3 := HOK.out.lle; omega
  obtain ⟨v5, wd2, hrun, O5, G5, L5⟩ := roapp wd w.heap.size vo (e.own.map (ownRo e.id)) rs A4 N4 c4 HG.out HS4.out.2.2 HS4.out.1 HS4.out.2.1 (by rw [List.length_map]; have := HOK.out.owl; omega) (by omega) HB.out.size
  refine Lib.wp_append_run _ (.tmp 8) (.tmp 19) 37 37 rfl _ _ rfl rfl _ _ hrun ?_
  have hFF : Below w.heap.size wd wd2 := Fr.below (X := fun k => vo.ownBlock = some k) (Fr.grown G5 (fun k e => e)) HB.out.size (fun k e => (HG.out.lt e).1)
  have HB2 := Lib.hid (HB.out.trans hFF)
  obtain ⟨A5, c5, hv5, -, hs5, hA5⟩ := gsl_of O5 (fun _ => rfl)
  have hA6 : ∀ b o, A5 = some ⟨b, o, none⟩ → ∃ cur, wd2.heap[b]? = some (.cells cur 40 (0, 0)) := fun b o e9 => (O5.lt (hA5 b o e9).1).2
  obtain ⟨N5, hN5⟩ : ∃ N5, N5 = (e.own.map (ownRo e.id) ++ rs).length := ⟨_, rfl⟩
  rw [← hN5] at hv5
  have HS5 := Lib.hid (And.intro hs5 (And.intro hA6 hN5))
  subst hv5
  refine hK.out _ _ (⟨(HE.out.step HB2.out).ec.c2, (HE.out.step HB2.out).ec.c3⟩) (fun hHeld2 => ?_)
  clear hK K hHeld
  have hHeld := hHeld2
  clear hHeld2
  try simp only [Act.put, List.setIfInBounds_toArray, List.set_cons_zero, List.set_cons_succ]
  clear hN4 hrun O5 G5 L5 hFF hs5 hA5 hA6 hN5 HG HS4
  clear HB
  generalize wd2 = wd at *
  have HB := HB2
  clear HB2
  refine wpAnyH_ready (rs := [15]) (by kernel_rfl) (by simp) ?_
  refine (AllReadyH.cons (o := ⟨some 21, .call ⟨.value (.func 44), #[.tmp 6, .tmp 20], #[24, 37]⟩, 37, "engine.go:193", #[⟨0, .data⟩, ⟨14, .data⟩, ⟨14, .chain⟩], none⟩) rfl (fun K hK => ?_) AllReadyH.nil)
  have hct := marked_any wd lo q e m (HE.out.step HB.out) A5 N5 c5 (e.ways rs) HS5.out.2.2 HS5.out.1 HS5.out.2.1 (fun r hr => (HSK.out.row HOK.out HSEL.out.1 r hr).1) (by have h1 := HSK.out.sel_len HSEL.out.2; have h2 := HSK.out.room; omega)
  go_simp
  with_reducible refine hct.mono ?_
  rintro en wd2 ⟨vm, rfl, hO, hE, hSK⟩
  have HM := Lib.hid (show EngAt lo wd2 q (e.lows (e.ways rs)) m ∧ Ef lo (m.X q) w wd2 ∧ GOwn 40 5 Ro.cl wd2 w.heap.size vm (e.ways rs) from ⟨hE, Ef.trans (Ef.of HB.out HE.out.los) (Ef.ofK (X := m.X q) hSK) (fun k hk => Or.inl hk), gtop hO HB.out.size⟩)
  refine hK.out _ _ (⟨HM.out.1.ec.c2, HM.out.1.ec.c3⟩) (fun hHeld2 => ?_)
  clear hK K hHeld
  have hHeld := hHeld2
  clear hHeld2
  try simp only [Act.put, List.setIfInBounds_toArray, List.set_cons_zero, List.set_cons_succ]
  clear hct hO hE hSK HB HS5
  generalize wd2 = wd at *
  refine wpAnyH_take (i := 16) (oi := ⟨some 3, .assign (.tmp 21), 37, "engine.go:193", #[⟨15, .data⟩, ⟨15, .chain⟩, ⟨0, .phase⟩, ⟨1, .phase⟩, ⟨2, .phase⟩, ⟨3, .phase⟩, ⟨4, .phase⟩, ⟨5, .phase⟩, ⟨6, .phase⟩, ⟨7, .phase⟩, ⟨8, .phase⟩, ⟨9, .phase⟩, ⟨10, .phase⟩, ⟨11, .phase⟩, ⟨12, .phase⟩, ⟨13, .phase⟩, ⟨14, .phase⟩, ⟨15, .phase⟩], none⟩) (v := vm) rfl (by kernel_rfl) (by kernel_rfl) (by kernel_rfl) (fun _ _ _ h => h) (Or.inl ⟨by rfl, fun w hSw => by go_simp⟩) (by assumption) ?_
  try simp only [Act.put, List.setIfInBounds_toArray, List.set_cons_zero, List.set_cons_succ]
  refine wpAnyH_done (by kernel_rfl) ?_ _
  try unfold NoPanic
  clear hHeld
  have hwl : (e.ways rs).length ≤ 1000 := by have h1 := HSK.out.sel_len HSEL.out.2; have h2 := HSK.out.room; omega
  have hct := sort_any wd w.heap.size vm (e.ways rs) HM.out.2.2 hwl
  go_upto_region 5 with (fail)
  refine hct.mono ?_
  rintro en w4 ⟨ts, rfl, hp, hs, hO, hF⟩
  clear hct hwl
  have hu := up_of hp (fun r hr => (HSK.out.row HOK.out HSEL.out.1 r hr).1.2.1) (HSK.out.ne HOK.out HSEL.out.1) hs
  have hE4 : EngAt lo w4 q (e.lows (e.ways rs)) m := HM.out.1.fr hF (fun k hk e9 => by
    have h1 := (HE.out.x_lt hk).2.1
    have h2 := (HM.out.2.2.lt e9).1
    omega) (fun b es cl hb e9 => by
    obtain ⟨-, cur, hg⟩ := HM.out.2.2.lt e9
    rw [hg] at hb; cases hb) (fun e9 => by
    have h2 := (HM.out.2.2.lt e9).1
    have := HE.out.los
    have := HE.out.p.lo0
    omega)
  have hF4 : Ef lo (m.X q) w w4 := Ef.trans HM.out.2.1 (Ef.frm (X := fun k => vm.ownBlock = some k) hF HM.out.1.los (fun k hk => by have h2 := (HM.out.2.2.lt hk).1; have := HE.out.los; omega) (fun k h => h)) (fun k hk => Or.inr (HM.out.2.2.lt hk).1)
  obtain ⟨A6, c6, hv6, -⟩ := hO.form (fun _ => rfl)
  obtain ⟨N6, hN6⟩ : ∃ N6, N6 = ts.length := ⟨_, rfl⟩
  rw [← hN6] at hv6
  have hsm := lows_same (e.ways rs) e
  have hct := choose_any w4 lo q (e.lows (e.ways rs)) m hE4 (HSK.out.lows HOK.out HSEL.out.1 HSEL.out.2) A6 N6 c6 ts hN6 (hv6 ▸ gtop hO HE.out.los) (fun b e9 hx => by
    have h1 := (HE.out.x_lt hx).2.1
    have h2 := (hO.lt (hv6 ▸ e9)).1
    omega) (HSK.out.chosen HOK.out HSEL.out.1 HSEL.out.2 hp hu) (by rw [hsm]; exact HSK.out.lost)
  have HOW := Lib.hid (fun k (e9 : (Value.slice A6 N6 c6).ownBlock = some k) => show w.heap.size ≤ k from (hO.lt (hv6 ▸ e9)).1)
  have hL : (e.lows (e.ways rs)).L = e.L := by rw [hsm]
  have HT := Lib.hid (And.intro hp (And.intro hu (And.intro hF4 hL)))
  subst hv6
  clear hsm hL hp hu hF4 hE4 hO hF hs hN6 HM
  have HC := Lib.hid hct
  clear hct
  go_upto_region 6 with (fail)
  refine HC.out.mono ?_
  rintro en w5 ⟨rfl, ⟨m5, a5, f5, x5, l5⟩, hok5⟩
  clear HC
  have hct := askBl_any w5 lo q _ m5 a5 hok5
  have HX5 := Lib.hid (And.intro f5 (And.intro x5 l5))
  have hs5 := a5.los
  clear f5 x5 l5 a5 hok5
  go_upto_region 7 with (fail)
  refine hct.mono ?_
  rintro en w6 ⟨bs, rfl, hbk, ⟨m6, a6, f6, x6, l6⟩, hok6⟩
  clear hct
  have hct := chosen_any w6 lo q _ m6 a6 hok6
  have HX6 := Lib.hid (And.intro hbk (And.intro a6 (And.intro f6 (And.intro x6 (And.intro l6 hok6)))))
  clear f6 x6 l6 a6 hok6 hbk
  go_wp2_with fail
  refine hct.mono ?_
  rintro en w7 ⟨v7, rfl, hO, B7⟩
  have H7 := Lib.hid (And.intro hO B7)
  clear hct hO B7
  go_wp2
  go_ret
  have hcs := choose_keeps (e.lows (e.ways rs)) ts
  have hch : (((e.lows (e.ways rs)).choose ts).askAll bs).ch = ts := (askAll_ch bs _).trans hcs.1
  refine ⟨v7, rs, ts, bs, rfl, HSEL.out.1, HSEL.out.2, HT.out.1, HT.out.2.1, ?_, ⟨m6, HX6.out.2.1.step H7.out.2, ?_, ?_, ?_, ?_⟩, HX6.out.2.2.2.2.2, ?_⟩
  · have := HX6.out.1
    rwa [hcs.2.1, hcs.2.2, HT.out.2.2.2] at this
  · have hx : ∀ k, m5.X q k → m.X q k ∨ w.heap.size ≤ k := fun k hk => by
      rcases HX5.out.2.1 k hk with (h1 | h1) | h1
      · exact Or.inl h1
      · exact Or.inr (HOW.out k h1)
      · exact Or.inr (Nat.le_trans HT.out.2.2.1.below_size h1)
    exact Ef.trans (Ef.trans (Ef.trans HT.out.2.2.1 HX5.out.1 (fun k hk => hk.imp id (HOW.out k))) HX6.out.2.2.1 hx) (Ef.of (X := fun _ => False) H7.out.2 HX6.out.2.1.los) (fun k hk => hk.elim)
  · intro k hk
    rcases HX6.out.2.2.2.1 k hk with h0 | h0
    · rcases HX5.out.2.1 k h0 with (h1 | h1) | h1
      · exact Or.inl h1
      · exact Or.inr (HOW.out k h1)
      · exact Or.inr (Nat.le_trans HT.out.2.2.1.below_size h1)
    · exact Or.inr (Nat.le_trans HT.out.2.2.1.below_size (Nat.le_trans HX5.out.1.below_size h0))
  · exact HX6.out.2.2.2.2.1.trans HX5.out.2.2
  · intro b e9 hx
    have h1 := (HX6.out.2.1.x_lt hx).2.1
    have h2 := (H7.out.1.lt e9).1
    omega
  · have := H7.out.1
    rw [hch] at this
    exact gtop this (Nat.le_trans HT.out.2.2.1.below_size (Nat.le_trans HX5.out.1.below_size HX6.out.2.2.1.below_size))
end Go.Proofs.YtjbogjbopgcbhaaGreatDoor.Eg
