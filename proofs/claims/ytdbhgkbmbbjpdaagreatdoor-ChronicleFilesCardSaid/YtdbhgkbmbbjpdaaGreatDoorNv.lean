/- A head, and a base, out of their files. -/
import Derived.Test.YtdbhgkbmbbjpdaaGreatDoorNu
namespace Go.Proofs.YtdbhgkbmbbjpdaaGreatDoor.Chr
open Go.ChangeShapes Go.WideShapes Go.ChangeAt Go.RowKit
open Shf (S str)
open Coin (Rd Row Own sz coin got Pur takeV endV CoinSaid)
open Frm (pack err size kind cnt body noItem itemV OneSaid)
set_option maxRecDepth 8000
set_option linter.unusedVariables false
open Shf (Tag Ext Rep M RdN)
def Alone2Said (w : World) (l : S) (e : Ending) (w' : World) : Prop :=
  ∃ (k n c a b : Nat) (A : Option Addr), e = .returned (.tuple #[.agg #[.int .u8 (k : Int), .slice A n c, .int .i64 (a : Int), .int .i64 (b : Int)], .bool (whole l)]) ∧ Below w.heap.size w w' ∧
    k < 256 ∧ (A = none → c = 0) ∧ n ≤ c ∧ (n = 0 ∨ n = (body l).length) ∧
    (whole l = true → k = (kind l).toNat ∧ n = (body l).length ∧ ∃ g, A = some ⟨g, 0, none⟩ ∧ w.heap.size ≤ g ∧ Row w' g (body l))
set_option maxHeartbeats 1000000 in
theorem alone2_any (A0 : Option Addr) (cap B : Nat) (l : S) (w : World) (hl : l.length ≤ 900000) (hc : l.length ≤ cap) (hA : A0 = none → cap = 0) (hB : B ≤ w.heap.size) (hr : Rd w B A0 l) :
    Calls Tryz.prog 69 #[.slice A0 l.length cap] w (Alone2Said w l) := by
  have N1 := heap_alloc_new w (.cells #[.int .u8 0, .slice none 0 0, .int .i64 0, .int .i64 0] 75)
  have B1 : Below w.heap.size w (w.alloc (.cells #[.int .u8 0, .slice none 0 0, .int .i64 0, .int .i64 0] 75)) := (Below.refl _ _).alloc (Nat.le_refl _) _
  have c95 : Calls Tryz.prog 95 #[.slice A0 l.length cap, .int .i64 0] (w.alloc (.cells #[.int .u8 0, .slice none 0 0, .int .i64 0, .int .i64 0] 75)) _ := Frm.one_any A0 cap B 0 l _ hl hc hA (Nat.zero_le _) (Nat.le_trans hB B1.size) (hr.below B1 hB)
  rw [List.drop_zero] at c95
  obtain ⟨m, hm⟩ : ∃ m, m = l.length := ⟨_, rfl⟩
  rw [← hm] at c95 ⊢
  have HM := Lib.hid hm
  have HN1 := Lib.hid (And.intro N1 B1)
  clear hr hl hc hA hm N1 B1
  go_enter Tryz.func69, Tryz.ntmps69
  go_upto_region 1 with (fail)
  generalize w.alloc (.cells #[.int .u8 0, .slice none 0 0, .int .i64 0, .int .i64 0] 75) = w1 at *
  go_upto_region 2 with (first
    | (go_at_call 95; (with_reducible refine c95.mono ?_); rintro e w2 HO; obtain ⟨k, n, c, a, b, er, A, rfl, HC⟩ := one0 HO; clear HO c95)
    | go_in)
  have N4 := heap_alloc_new w2 (.cells #[.int .u8 (k : Int), .slice A n c, .int .i64 (a : Int), .int .i64 (b : Int)] 75)
  have N1' := (HC.out.1.block _ (Array.getElem?_eq_some_iff.1 HN1.out.1).1).trans HN1.out.1
  have N1'' := (heap_alloc_old w2 (.cells #[.int .u8 (k : Int), .slice A n c, .int .i64 (a : Int), .int .i64 (b : Int)] 75) (Array.getElem?_eq_some_iff.1 N1').1).trans N1'
  have hne : some w2.heap.size ≠ some w.heap.size := fun h => by
    have h1 := (Array.getElem?_eq_some_iff.1 N1').1
    injection h with h
    omega
  have hne' : w2.heap.size ≠ w.heap.size := fun h => hne (by rw [h])
  have B4 : Below w2.heap.size w2 (w2.alloc (.cells #[.int .u8 (k : Int), .slice A n c, .int .i64 (a : Int), .int .i64 (b : Int)] 75)) := (Below.refl _ _).alloc (Nat.le_refl _) _
  have hB2 := HN1.out.2.trans (HC.out.1.mono HN1.out.2.size)
  have HB4 := Lib.hid (And.intro B4 (hB2.trans (B4.mono hB2.size)))
  generalize w2.alloc (.cells #[.int .u8 (k : Int), .slice A n c, .int .i64 (a : Int), .int .i64 (b : Int)] 75) = w4 at *
  have HD : Hid (w4.drew.heap[w.heap.size]? = some (.cells #[.int .u8 0, .slice none 0 0, .int .i64 0, .int .i64 0] 75) ∧ Below w2.heap.size w2 w4.drew ∧ w2.heap.size ≠ w.heap.size ∧ Below w.heap.size w w4.drew) := ⟨N1'', HB4.out.1.drew, hne', HB4.out.2.drew⟩
  clear N1' N1'' hne hne' B4 hB2
  have fin : ∀ (W : World) (bv : Bool), w4.drew.grownBy W (some w.heap.size) → bv = whole l → Alone2Said w l (.returned (.tuple #[.agg #[.int .u8 (k : Int), .slice A n c, .int .i64 (a : Int), .int .i64 (b : Int)], .bool bv])) W := fun W bv G hbv => by
    subst hbv
    refine ⟨k, n, c, a, b, A, rfl, HD.out.2.2.2.grown G HD.out.2.2.2.size (fun k h => by cases h; exact Nat.le_refl _), HC.out.2.1, HC.out.2.2.1, HC.out.2.2.2.1, HC.out.2.2.2.2.1, fun hw => ?_⟩
    have h0 : err l = 0 := by
      unfold whole at hw
      exact (of_decide_eq_true hw).1
    obtain ⟨_, h2, h3, g, rfl, h5, h6⟩ := HC.out.2.2.2.2.2.2 (by rw [HC.out.2.2.2.2.2.1]; exact h0)
    refine ⟨h2, h3, g, rfl, Nat.le_trans HN1.out.2.size h5, ?_⟩
    have hgl := h6.lt
    have h7 : Row w4.drew g (body l) := h6.below HD.out.2.1 hgl
    have h8 : Row W g (body l) := (G.block g h7.lt (fun e => by
      injection e with e
      have := (Array.getElem?_eq_some_iff.1 HN1.out.1).1
      omega)).trans h7
    exact h8
  by_cases h0 : er = 0
  · have hw : whole l = decide (b = m) := by
      unfold whole
      have h1 := HC.out.2.2.2.2.2.1
      rw [← h1, h0, ← HM.out, (HC.out.2.2.2.2.2.2 h0).1]
      simp
    have HE0 := Lib.hid (show (er : Int) = 0 by omega)
    have HW := Lib.hid hw
    clear hw h0
    refine wp_region_noPanic ?_
    refine wp_region_held_drew (S := fun x : World => x.heap[w2.heap.size]? = some (.cells #[.int .u8 (k : Int), .slice A n c, .int .i64 (a : Int), .int .i64 (b : Int)] 75)) (by kernel_rfl) N4 (fun hHeld => ?_)
    generalize w4.drew = wd at *
    refine wpAnyH_take (i := 0) (oi := ⟨some 11, .load 75 (.tmp 4), 75, "files.go:179", #[], none⟩) (v := .agg #[.int .u8 (k : Int), .slice A n c, .int .i64 (a : Int), .int .i64 (b : Int)]) rfl (by kernel_rfl) (by kernel_rfl) (by kernel_rfl) (fun _ _ _ h => h) (Or.inl ⟨by rfl, fun w hSw => by obtain ⟨p0, p1, p2, p3, -⟩ := Frm.cells4 hSw; go_simp⟩) (by assumption) ?_
    try simp only [Act.put, stA, stB, stC]
    refine wpAnyH_take (i := 1) (oi := ⟨some 12, .move (.tmp 5), 27, "files.go:179", #[], none⟩) (v := .int .i64 (er : Int)) rfl (by kernel_rfl) (by kernel_rfl) (by kernel_rfl) (fun _ _ _ h => h) (Or.inl ⟨by rfl, fun w hSw => by go_simp⟩) (by assumption) ?_
    try simp only [Act.put, stA, stB, stC]
    refine wpAnyH_take (i := 2) (oi := ⟨some 13, .binOp .eql 27 (.tmp 12) (.const (.int .i64 0)) 27, 4, "files.go:179", #[⟨1, .data⟩], none⟩) (v := .bool true) rfl (by kernel_rfl) (by kernel_rfl) (by kernel_rfl) (fun _ _ _ h => h) (Or.inl ⟨by rfl, fun w hSw => by have hz := HE0.out; go_simp⟩) (by assumption) ?_
    try simp only [Act.put, stA, stB, stC]
    refine wpAnyH_take (i := 3) (oi := ⟨some 14, .move (.tmp 13), 4, "files.go:179", #[⟨2, .data⟩], none⟩) (v := .bool true) rfl (by kernel_rfl) (by kernel_rfl) (by kernel_rfl) (fun _ _ _ h => h) (Or.inl ⟨by rfl, fun w hSw => by go_simp⟩) (by assumption) ?_
    try simp only [Act.put, stA, stB, stC]
    refine wpAnyH_take (i := 4) (oi := ⟨some 15, .fieldAddr 75 (.tmp 4) 3, 0, "files.go:179", #[⟨3, .guard⟩, ⟨10, .gcOnly .lateStores⟩], some (3, true)⟩) (v := .pointer (some ⟨w2.heap.size, 3, none⟩)) rfl (by kernel_rfl) (by kernel_rfl) (by kernel_rfl) (fun _ _ _ h => h) (Or.inl ⟨by rfl, fun w hSw => by go_simp⟩) (by assumption) ?_
    try simp only [Act.put, stA, stB, stC]
    refine wpAnyH_take (i := 5) (oi := ⟨some 16, .load 3 (.tmp 15), 3, "files.go:179", #[⟨4, .data⟩, ⟨3, .guard⟩, ⟨10, .gcOnly .lateStores⟩], some (3, true)⟩) (v := .int .i64 (b : Int)) rfl (by kernel_rfl) (by kernel_rfl) (by kernel_rfl) (fun _ _ _ h => h) (Or.inl ⟨by rfl, fun w hSw => by obtain ⟨p0, p1, p2, p3, -⟩ := Frm.cells4 hSw; go_simp⟩) (by assumption) ?_
    try simp only [Act.put, stA, stB, stC]
    refine wpAnyH_take (i := 6) (oi := ⟨some 17, .move (.tmp 0), 30, "files.go:179", #[⟨3, .guard⟩], some (3, true)⟩) (v := .slice A0 m cap) rfl (by kernel_rfl) (by kernel_rfl) (by kernel_rfl) (fun _ _ _ h => h) (Or.inl ⟨by rfl, fun w hSw => by go_simp⟩) (by assumption) ?_
    try simp only [Act.put, stA, stB, stC]
    refine wpAnyH_take (i := 7) (oi := ⟨some 18, .call ⟨.builtin .len, #[.tmp 17], #[30]⟩, 3, "files.go:179", #[⟨6, .data⟩, ⟨3, .guard⟩], some (3, true)⟩) (v := .int .i64 (m : Int)) rfl (by kernel_rfl) (by kernel_rfl) (by kernel_rfl) (fun _ _ _ h => h) (Or.inl ⟨by rfl, fun w hSw => by go_simp⟩) (by assumption) ?_
    try simp only [Act.put, stA, stB, stC]
    refine wpAnyH_take (i := 8) (oi := ⟨some 19, .binOp .eql 3 (.tmp 16) (.tmp 18) 3, 4, "files.go:179", #[⟨5, .data⟩, ⟨7, .data⟩, ⟨3, .guard⟩, ⟨10, .gcOnly .lateStores⟩], some (3, true)⟩) (v := .bool ((b : Int) == (m : Int))) rfl (by kernel_rfl) (by kernel_rfl) (by kernel_rfl) (fun _ _ _ h => h) (Or.inl ⟨by rfl, fun w hSw => by go_simp⟩) (by assumption) ?_
    try simp only [Act.put, stA, stB, stC]
    refine wpAnyH_take (i := 9) (oi := ⟨some 20, .pick (.tmp 14) (.tmp 19) (.const (.bool false)), 4, "files.go:179", #[⟨3, .data⟩, ⟨8, .data⟩, ⟨10, .gcOnly .lateStores⟩], none⟩) (v := .bool ((b : Int) == (m : Int))) rfl (by kernel_rfl) (by kernel_rfl) (by kernel_rfl) (fun _ _ _ h => h) (Or.inl ⟨by rfl, fun w hSw => by go_simp⟩) (by assumption) ?_
    try simp only [Act.put, stA, stB, stC]
    refine wpAnyH_ready (rs := [10]) (by kernel_rfl) (by simp) ?_
    refine AllReadyH.cons (o := ⟨none, .store 75 (.tmp 2) (.tmp 11), 0, "files.go:179", #[⟨0, .data⟩, ⟨3, .chain⟩, ⟨0, .phase⟩, ⟨1, .textOnly .lateStores⟩, ⟨2, .textOnly .lateStores⟩, ⟨3, .textOnly .lateStores⟩, ⟨4, .textOnly .lateStores⟩, ⟨5, .textOnly .lateStores⟩, ⟨6, .textOnly .lateStores⟩, ⟨7, .textOnly .lateStoresUnsure⟩, ⟨8, .textOnly .lateStores⟩, ⟨9, .textOnly .lateStores⟩], none⟩) rfl (fun K hK => ?_) AllReadyH.nil
    obtain ⟨t0, t1, t2, t3, tf⟩ := Frm.cells4 HD.out.1
    have P2 := put4 HD.out.1 (.int .u8 (k : Int)) (.slice A n c) (.int .i64 (a : Int)) (.int .i64 (b : Int))
    have G2 := set4_grown wd w.heap.size (.int .u8 (k : Int)) (.slice A n c) (.int .i64 (a : Int)) (.int .i64 (b : Int))
    go_simp
    refine hK.out _ _ ((G2.block _ (Array.getElem?_eq_some_iff.1 hHeld).1 (fun h => HD.out.2.2.1 (by injection h))).trans hHeld) (fun hHeld => ?_)
    clear hK K
    try simp only [Act.put, stA, stB, stC]
    clear t0 t1 t2 t3 tf
    generalize World.setCell (World.setCell (World.setCell (World.setCell wd _ _) _ _) _ _) _ _ = w5 at *
    refine wpAnyH_take (i := 11) (oi := ⟨some 3, .assign (.tmp 20), 4, "files.go:179", #[⟨9, .data⟩, ⟨10, .chain⟩, ⟨0, .phase⟩, ⟨1, .phase⟩, ⟨2, .phase⟩, ⟨3, .phase⟩, ⟨4, .phase⟩, ⟨5, .phase⟩, ⟨6, .phase⟩, ⟨7, .phase⟩, ⟨8, .phase⟩, ⟨9, .phase⟩, ⟨10, .phase⟩], none⟩) (v := .bool ((b : Int) == (m : Int))) rfl (by kernel_rfl) (by kernel_rfl) (by kernel_rfl) (fun _ _ _ h => h) (Or.inl ⟨by rfl, fun w hSw => by go_simp⟩) (by assumption) ?_
    try simp only [Act.put, stA, stB, stC]
    refine wpAnyH_done (by kernel_rfl) ?_ _
    try unfold NoPanic
    go_wp2
    (try simp only [Exit.inBlock, Exit.then])
    refine bodyPost_ret (Frm.res26 rfl _ _ w.heap.size 75 _ (0, 0) rfl P2 rfl) rfl ?_
    exact fin w5 _ G2 (by rw [HW.out]; by_cases h : b = m <;> simp [h]; omega)
  · have hw : whole l = false := by
      unfold whole
      rw [HC.out.2.2.2.2.2.1] at h0
      simp [h0]
    have h0' : ¬ (er : Int) = 0 := by omega
    refine wp_region_noPanic ?_
    refine wp_region_held_drew (S := fun x : World => x.heap[w2.heap.size]? = some (.cells #[.int .u8 (k : Int), .slice A n c, .int .i64 (a : Int), .int .i64 (b : Int)] 75)) (by kernel_rfl) N4 (fun hHeld => ?_)
    generalize w4.drew = wd at *
    refine wpAnyH_take (i := 0) (oi := ⟨some 11, .load 75 (.tmp 4), 75, "files.go:179", #[], none⟩) (v := .agg #[.int .u8 (k : Int), .slice A n c, .int .i64 (a : Int), .int .i64 (b : Int)]) rfl (by kernel_rfl) (by kernel_rfl) (by kernel_rfl) (fun _ _ _ h => h) (Or.inl ⟨by rfl, fun w hSw => by obtain ⟨p0, p1, p2, p3, -⟩ := Frm.cells4 hSw; go_simp⟩) (by assumption) ?_
    try simp only [Act.put, stA, stB, stC]
    refine wpAnyH_take (i := 1) (oi := ⟨some 12, .move (.tmp 5), 27, "files.go:179", #[], none⟩) (v := .int .i64 (er : Int)) rfl (by kernel_rfl) (by kernel_rfl) (by kernel_rfl) (fun _ _ _ h => h) (Or.inl ⟨by rfl, fun w hSw => by go_simp⟩) (by assumption) ?_
    try simp only [Act.put, stA, stB, stC]
    refine wpAnyH_take (i := 2) (oi := ⟨some 13, .binOp .eql 27 (.tmp 12) (.const (.int .i64 0)) 27, 4, "files.go:179", #[⟨1, .data⟩], none⟩) (v := .bool false) rfl (by kernel_rfl) (by kernel_rfl) (by kernel_rfl) (fun _ _ _ h => h) (Or.inl ⟨by rfl, fun w hSw => by go_simp⟩) (by assumption) ?_
    try simp only [Act.put, stA, stB, stC]
    refine wpAnyH_take (i := 3) (oi := ⟨some 14, .move (.tmp 13), 4, "files.go:179", #[⟨2, .data⟩], none⟩) (v := .bool false) rfl (by kernel_rfl) (by kernel_rfl) (by kernel_rfl) (fun _ _ _ h => h) (Or.inl ⟨by rfl, fun w hSw => by go_simp⟩) (by assumption) ?_
    try simp only [Act.put, stA, stB, stC]
    refine wpAnyH_take (i := 4) (oi := ⟨some 15, .fieldAddr 75 (.tmp 4) 3, 0, "files.go:179", #[⟨3, .guard⟩, ⟨10, .gcOnly .lateStores⟩], some (3, true)⟩) (v := undef) rfl (by kernel_rfl) (by kernel_rfl) (by kernel_rfl) (fun _ _ _ h => h) (Or.inr ⟨by rfl, rfl⟩) (by assumption) ?_
    try simp only [Act.put, stA, stB, stC]
    refine wpAnyH_take (i := 5) (oi := ⟨some 16, .load 3 (.tmp 15), 3, "files.go:179", #[⟨4, .data⟩, ⟨3, .guard⟩, ⟨10, .gcOnly .lateStores⟩], some (3, true)⟩) (v := undef) rfl (by kernel_rfl) (by kernel_rfl) (by kernel_rfl) (fun _ _ _ h => h) (Or.inr ⟨by rfl, rfl⟩) (by assumption) ?_
    try simp only [Act.put, stA, stB, stC]
    refine wpAnyH_take (i := 6) (oi := ⟨some 17, .move (.tmp 0), 30, "files.go:179", #[⟨3, .guard⟩], some (3, true)⟩) (v := undef) rfl (by kernel_rfl) (by kernel_rfl) (by kernel_rfl) (fun _ _ _ h => h) (Or.inr ⟨by rfl, rfl⟩) (by assumption) ?_
    try simp only [Act.put, stA, stB, stC]
    refine wpAnyH_take (i := 7) (oi := ⟨some 18, .call ⟨.builtin .len, #[.tmp 17], #[30]⟩, 3, "files.go:179", #[⟨6, .data⟩, ⟨3, .guard⟩], some (3, true)⟩) (v := undef) rfl (by kernel_rfl) (by kernel_rfl) (by kernel_rfl) (fun _ _ _ h => h) (Or.inr ⟨by rfl, rfl⟩) (by assumption) ?_
    try simp only [Act.put, stA, stB, stC]
    refine wpAnyH_take (i := 8) (oi := ⟨some 19, .binOp .eql 3 (.tmp 16) (.tmp 18) 3, 4, "files.go:179", #[⟨5, .data⟩, ⟨7, .data⟩, ⟨3, .guard⟩, ⟨10, .gcOnly .lateStores⟩], some (3, true)⟩) (v := undef) rfl (by kernel_rfl) (by kernel_rfl) (by kernel_rfl) (fun _ _ _ h => h) (Or.inr ⟨by rfl, rfl⟩) (by assumption) ?_
    try simp only [Act.put, stA, stB, stC]
    refine wpAnyH_take (i := 9) (oi := ⟨some 20, .pick (.tmp 14) (.tmp 19) (.const (.bool false)), 4, "files.go:179", #[⟨3, .data⟩, ⟨8, .data⟩, ⟨10, .gcOnly .lateStores⟩], none⟩) (v := .bool false) rfl (by kernel_rfl) (by kernel_rfl) (by kernel_rfl) (fun _ _ _ h => h) (Or.inl ⟨by rfl, fun w hSw => by go_simp⟩) (by assumption) ?_
    try simp only [Act.put, stA, stB, stC]
    refine wpAnyH_ready (rs := [10]) (by kernel_rfl) (by simp) ?_
    refine AllReadyH.cons (o := ⟨none, .store 75 (.tmp 2) (.tmp 11), 0, "files.go:179", #[⟨0, .data⟩, ⟨3, .chain⟩, ⟨0, .phase⟩, ⟨1, .textOnly .lateStores⟩, ⟨2, .textOnly .lateStores⟩, ⟨3, .textOnly .lateStores⟩, ⟨4, .textOnly .lateStores⟩, ⟨5, .textOnly .lateStores⟩, ⟨6, .textOnly .lateStores⟩, ⟨7, .textOnly .lateStoresUnsure⟩, ⟨8, .textOnly .lateStores⟩, ⟨9, .textOnly .lateStores⟩], none⟩) rfl (fun K hK => ?_) AllReadyH.nil
    obtain ⟨t0, t1, t2, t3, tf⟩ := Frm.cells4 HD.out.1
    have P2 := put4 HD.out.1 (.int .u8 (k : Int)) (.slice A n c) (.int .i64 (a : Int)) (.int .i64 (b : Int))
    have G2 := set4_grown wd w.heap.size (.int .u8 (k : Int)) (.slice A n c) (.int .i64 (a : Int)) (.int .i64 (b : Int))
    go_simp
    refine hK.out _ _ ((G2.block _ (Array.getElem?_eq_some_iff.1 hHeld).1 (fun h => HD.out.2.2.1 (by injection h))).trans hHeld) (fun hHeld => ?_)
    clear hK K
    try simp only [Act.put, stA, stB, stC]
    clear t0 t1 t2 t3 tf
    generalize World.setCell (World.setCell (World.setCell (World.setCell wd _ _) _ _) _ _) _ _ = w5 at *
    refine wpAnyH_take (i := 11) (oi := ⟨some 3, .assign (.tmp 20), 4, "files.go:179", #[⟨9, .data⟩, ⟨10, .chain⟩, ⟨0, .phase⟩, ⟨1, .phase⟩, ⟨2, .phase⟩, ⟨3, .phase⟩, ⟨4, .phase⟩, ⟨5, .phase⟩, ⟨6, .phase⟩, ⟨7, .phase⟩, ⟨8, .phase⟩, ⟨9, .phase⟩, ⟨10, .phase⟩], none⟩) (v := .bool false) rfl (by kernel_rfl) (by kernel_rfl) (by kernel_rfl) (fun _ _ _ h => h) (Or.inl ⟨by rfl, fun w hSw => by go_simp⟩) (by assumption) ?_
    try simp only [Act.put, stA, stB, stC]
    refine wpAnyH_done (by kernel_rfl) ?_ _
    try unfold NoPanic
    go_wp2
    (try simp only [Exit.inBlock, Exit.then])
    refine bodyPost_ret (Frm.res26 rfl _ _ w.heap.size 75 _ (0, 0) rfl P2 rfl) rfl ?_
    exact fin w5 _ G2 hw.symm
theorem bName_le (n : Nat) (h : n < 100) : (bName n).length ≤ 1000 := by
  have : ∀ n : Fin 100, (bName n.1).length ≤ 1000 := by decide +kernel
  exact this ⟨n, h⟩
theorem body_le (l : S) : (body l).length ≤ l.length := by
  unfold Frm.body
  rw [List.length_take, List.length_drop]
  omega
theorem below_grownX {a b c : World} {p : Nat} (B : Below a.heap.size a b) (G : b.grownBy c (some p)) : a.grownBy c (some p) :=
  ⟨G.os.trans B.os, G.tape.trans B.tape, G.output.trans B.output, Nat.le_trans B.size G.size, fun k hk hne => (G.block k (Nat.lt_of_lt_of_le hk B.size) hne).trans (B.block k hk)⟩
def hdCs (b : Bool) (cs : Array Value) (l : S) : Array Value := match b with
  | true => setJ cs 2 (body l) 3
  | false => cs
def hdOk (l : S) : Bool := whole l && decide ((((kind l).toNat : Int) = 76) ∧ endV (stP (body l) 3).1 (stP (body l) 3).2 = 0)
set_option maxHeartbeats 2000000 in
theorem takeHead_any (w : World) (p : Nat) (cs : Array Value) (hp : w.heap[p]? = some (.cells cs 82 (0, 0))) (hsz : cs.size = 8) (hnb : NoB cs) (A : Option Addr) (n c : Nat) (l : S) (hn : n = l.length) (hl : l.length ≤ 900000) (hc : l.length ≤ c) (hA : A = none → c = 0) (hr : Rd w w.heap.size A l) :
    Calls Tryz.prog 39 #[.pointer (some ⟨p, 0, none⟩), .slice A n c] w fun e w' => e = .returned (.bool (hdOk l)) ∧ w.grownBy w' (some p) ∧ w'.heap[p]? = some (.cells (hdCs (whole l) cs l) 82 (0, 0)) := by
  have c69 := alone2_any A c w.heap.size l w hl hc hA (Nat.le_refl _) hr
  rw [← hn] at c69
  have hpl := (Array.getElem?_eq_some_iff.1 hp).1
  have HP := Lib.hid (And.intro hp (And.intro hpl (And.intro hsz (And.intro hnb hl))))
  clear hp hpl hsz hnb hn hl hc hA hr
  go_enter Tryz.func39, Tryz.ntmps39
  go_upto_region 2 with (go_at_call 69; (with_reducible refine c69.mono ?_); rintro e w1 ⟨k, bn, bc, a, b, A9, rfl, B1, hk, hA9, hbc, hb0, hw⟩; have H1 := Lib.hid (And.intro B1 (And.intro hA9 hw)); clear B1 hk hA9 hbc hb0 hw c69)
  obtain ⟨wl, hwl⟩ : ∃ x, x = whole l := ⟨_, rfl⟩
  rw [← hwl]
  have N5' := heap_alloc_new w1 (.cells #[.int .u8 (k : Int), .slice A9 bn bc, .int .i64 (a : Int), .int .i64 (b : Int)] 75)
  have B5 : Below w1.heap.size w1 (w1.alloc (.cells #[.int .u8 (k : Int), .slice A9 bn bc, .int .i64 (a : Int), .int .i64 (b : Int)] 75)) := (Below.refl _ _).alloc (Nat.le_refl _) _
  have HB1 := Lib.hid (And.intro B5 (H1.out.1.trans (B5.mono H1.out.1.size)))
  generalize w1.alloc (.cells #[.int .u8 (k : Int), .slice A9 bn bc, .int .i64 (a : Int), .int .i64 (b : Int)] 75) = w2 at *
  obtain ⟨b5, hb5⟩ : ∃ x, x = w1.heap.size := ⟨_, rfl⟩
  rw [← hb5] at N5' ⊢
  have N5 := Lib.hid N5'
  have HNE : Hid (p ≠ b5) := by have h1 := H1.out.1.size; have h2 := HP.out.2.1; show p ≠ b5; omega
  have HBW := Lib.hid (HB1.out.2.drew)
  clear B5 N5'
  cases wl with
  | false =>
    have HWL := Lib.hid hwl
    clear hwl hb5
    refine wp_region_noPanic ?_
    refine wp_region_held_drew (S := fun y : World => y.heap[b5]? = some (.cells #[.int .u8 (k : Int), .slice A9 bn bc, .int .i64 (a : Int), .int .i64 (b : Int)] 75)) (by kernel_rfl) N5.out (fun hHeld => ?_)
    generalize w2.drew = wd at *
    refine wpAnyH_take (i := 0) (oi := ⟨some 12, .move (.tmp 6), 4, "files.go:31", #[], none⟩) (v := .bool false) rfl (by kernel_rfl) (by kernel_rfl) (by kernel_rfl) (fun _ _ _ h => h) (Or.inl ⟨by rfl, fun w hSw => by go_simp⟩) (by assumption) ?_
    try simp only [Act.put, stA, stB, stC]
    refine wpAnyH_take (i := 1) (oi := ⟨some 13, .move (.tmp 12), 4, "files.go:31", #[⟨0, .data⟩], none⟩) (v := .bool false) rfl (by kernel_rfl) (by kernel_rfl) (by kernel_rfl) (fun _ _ _ h => h) (Or.inl ⟨by rfl, fun w hSw => by go_simp⟩) (by assumption) ?_
    try simp only [Act.put, stA, stB, stC]
    refine wpAnyH_take (i := 2) (oi := ⟨some 14, .load 75 (.tmp 5), 75, "files.go:31", #[⟨1, .guard⟩], some (1, true)⟩) (v := undef) rfl (by kernel_rfl) (by kernel_rfl) (by kernel_rfl) (fun _ _ _ h => h) (Or.inr ⟨by rfl, rfl⟩) (by assumption) ?_
    try simp only [Act.put, stA, stB, stC]
    refine wpAnyH_take (i := 3) (oi := ⟨some 15, .move (.tmp 0), 26, "files.go:31", #[⟨1, .guard⟩], some (1, true)⟩) (v := undef) rfl (by kernel_rfl) (by kernel_rfl) (by kernel_rfl) (fun _ _ _ h => h) (Or.inr ⟨by rfl, rfl⟩) (by assumption) ?_
    try simp only [Act.put, stA, stB, stC]
    refine wpAnyH_take (i := 4) (oi := ⟨some 16, .nilCheck (.tmp 15), 0, "files.go:31", #[⟨3, .data⟩, ⟨1, .guard⟩], some (1, true)⟩) (v := undef) rfl (by kernel_rfl) (by kernel_rfl) (by kernel_rfl) (fun _ _ _ h => h) (Or.inr ⟨by rfl, rfl⟩) (by assumption) ?_
    try simp only [Act.put, stA, stB, stC]
    refine wpAnyH_take (i := 5) (oi := ⟨some 17, .fieldAddr 82 (.tmp 16) 2, 0, "files.go:31", #[⟨4, .data⟩, ⟨1, .guard⟩], some (1, true)⟩) (v := undef) rfl (by kernel_rfl) (by kernel_rfl) (by kernel_rfl) (fun _ _ _ h => h) (Or.inr ⟨by rfl, rfl⟩) (by assumption) ?_
    try simp only [Act.put, stA, stB, stC]
    refine wpAnyH_take (i := 6) (oi := ⟨some 18, .fieldAddr 45 (.tmp 17) 0, 0, "files.go:31", #[⟨5, .data⟩, ⟨1, .guard⟩], some (1, true)⟩) (v := undef) rfl (by kernel_rfl) (by kernel_rfl) (by kernel_rfl) (fun _ _ _ h => h) (Or.inr ⟨by rfl, rfl⟩) (by assumption) ?_
    try simp only [Act.put, stA, stB, stC]
    refine wpAnyH_take (i := 7) (oi := ⟨some 19, .move (.tmp 0), 26, "files.go:31", #[⟨1, .guard⟩], some (1, true)⟩) (v := undef) rfl (by kernel_rfl) (by kernel_rfl) (by kernel_rfl) (fun _ _ _ h => h) (Or.inr ⟨by rfl, rfl⟩) (by assumption) ?_
    try simp only [Act.put, stA, stB, stC]
    refine wpAnyH_take (i := 8) (oi := ⟨some 20, .nilCheck (.tmp 19), 0, "files.go:31", #[⟨7, .data⟩, ⟨1, .guard⟩], some (1, true)⟩) (v := undef) rfl (by kernel_rfl) (by kernel_rfl) (by kernel_rfl) (fun _ _ _ h => h) (Or.inr ⟨by rfl, rfl⟩) (by assumption) ?_
    try simp only [Act.put, stA, stB, stC]
    refine wpAnyH_take (i := 9) (oi := ⟨some 21, .fieldAddr 82 (.tmp 20) 2, 0, "files.go:31", #[⟨8, .data⟩, ⟨1, .guard⟩], some (1, true)⟩) (v := undef) rfl (by kernel_rfl) (by kernel_rfl) (by kernel_rfl) (fun _ _ _ h => h) (Or.inr ⟨by rfl, rfl⟩) (by assumption) ?_
    try simp only [Act.put, stA, stB, stC]
    refine wpAnyH_take (i := 10) (oi := ⟨some 22, .fieldAddr 45 (.tmp 21) 1, 0, "files.go:31", #[⟨9, .data⟩, ⟨1, .guard⟩], some (1, true)⟩) (v := undef) rfl (by kernel_rfl) (by kernel_rfl) (by kernel_rfl) (fun _ _ _ h => h) (Or.inr ⟨by rfl, rfl⟩) (by assumption) ?_
    try simp only [Act.put, stA, stB, stC]
    refine wpAnyH_take (i := 11) (oi := ⟨some 23, .move (.tmp 0), 26, "files.go:31", #[⟨1, .guard⟩], some (1, true)⟩) (v := undef) rfl (by kernel_rfl) (by kernel_rfl) (by kernel_rfl) (fun _ _ _ h => h) (Or.inr ⟨by rfl, rfl⟩) (by assumption) ?_
    try simp only [Act.put, stA, stB, stC]
    refine wpAnyH_take (i := 12) (oi := ⟨some 24, .nilCheck (.tmp 23), 0, "files.go:31", #[⟨11, .data⟩, ⟨1, .guard⟩], some (1, true)⟩) (v := undef) rfl (by kernel_rfl) (by kernel_rfl) (by kernel_rfl) (fun _ _ _ h => h) (Or.inr ⟨by rfl, rfl⟩) (by assumption) ?_
    try simp only [Act.put, stA, stB, stC]
    refine wpAnyH_take (i := 13) (oi := ⟨some 25, .fieldAddr 82 (.tmp 24) 2, 0, "files.go:31", #[⟨12, .data⟩, ⟨1, .guard⟩], some (1, true)⟩) (v := undef) rfl (by kernel_rfl) (by kernel_rfl) (by kernel_rfl) (fun _ _ _ h => h) (Or.inr ⟨by rfl, rfl⟩) (by assumption) ?_
    try simp only [Act.put, stA, stB, stC]
    refine wpAnyH_take (i := 14) (oi := ⟨some 26, .fieldAddr 45 (.tmp 25) 2, 0, "files.go:31", #[⟨13, .data⟩, ⟨1, .guard⟩], some (1, true)⟩) (v := undef) rfl (by kernel_rfl) (by kernel_rfl) (by kernel_rfl) (fun _ _ _ h => h) (Or.inr ⟨by rfl, rfl⟩) (by assumption) ?_
    try simp only [Act.put, stA, stB, stC]
    refine wpAnyH_take (i := 15) (oi := ⟨some 27, .buildSlice 134 3 #[(0, .tmp 18), (1, .tmp 22), (2, .tmp 26)], 134, "files.go:31", #[⟨6, .data⟩, ⟨10, .data⟩, ⟨14, .data⟩, ⟨1, .guard⟩], some (1, true)⟩) (v := undef) rfl (by kernel_rfl) (by kernel_rfl) (by kernel_rfl) (fun _ _ _ h => h) (Or.inr ⟨by rfl, rfl⟩) (by assumption) ?_
    try simp only [Act.put, stA, stB, stC]
    refine wpAnyH_take (i := 16) (oi := ⟨some 28, .call ⟨.value (.func 70), #[.tmp 14, .const (.int .u8 76), .tmp 27], #[75, 5, 134]⟩, 4, "files.go:31", #[⟨2, .data⟩, ⟨15, .data⟩, ⟨1, .chain⟩, ⟨1, .guard⟩], some (1, true)⟩) (v := undef) rfl (by kernel_rfl) (by kernel_rfl) (by kernel_rfl) (fun _ _ _ h => h) (Or.inr ⟨by rfl, rfl⟩) (by assumption) ?_
    try simp only [Act.put, stA, stB, stC]
    refine wpAnyH_take (i := 17) (oi := ⟨some 29, .pick (.tmp 13) (.tmp 28) (.const (.bool false)), 4, "files.go:31", #[⟨1, .data⟩, ⟨16, .data⟩], none⟩) (v := .bool false) rfl (by kernel_rfl) (by kernel_rfl) (by kernel_rfl) (fun _ _ _ h => h) (Or.inl ⟨by rfl, fun w hSw => by go_simp⟩) (by assumption) ?_
    try simp only [Act.put, stA, stB, stC]
    refine wpAnyH_take (i := 18) (oi := ⟨some 4, .assign (.tmp 29), 4, "files.go:31", #[⟨17, .data⟩, ⟨16, .chain⟩, ⟨0, .phase⟩, ⟨1, .phase⟩, ⟨2, .phase⟩, ⟨3, .phase⟩, ⟨4, .phase⟩, ⟨5, .phase⟩, ⟨6, .phase⟩, ⟨7, .phase⟩, ⟨8, .phase⟩, ⟨9, .phase⟩, ⟨10, .phase⟩, ⟨11, .phase⟩, ⟨12, .phase⟩, ⟨13, .phase⟩, ⟨14, .phase⟩, ⟨15, .phase⟩, ⟨16, .phase⟩, ⟨17, .phase⟩], none⟩) (v := .bool false) rfl (by kernel_rfl) (by kernel_rfl) (by kernel_rfl) (fun _ _ _ h => h) (Or.inl ⟨by rfl, fun w hSw => by go_simp⟩) (by assumption) ?_
    try simp only [Act.put, stA, stB, stC]
    refine wpAnyH_done (by kernel_rfl) ?_ _
    try unfold NoPanic
    go_wp2
    go_ret
    have hw : whole l = false := HWL.out.symm
    refine ⟨by unfold hdOk; rw [hw]; rfl, ⟨HBW.out.os, HBW.out.tape, HBW.out.output, HBW.out.size, fun k hk _ => HBW.out.block k hk⟩, ?_⟩
    rw [hw]
    exact (HBW.out.block p HP.out.2.1).trans HP.out.1
  | true =>
    obtain ⟨rfl, rfl, g9, rfl, hg9, R9⟩ := H1.out.2.2 hwl.symm
    obtain ⟨z7, hz7⟩ : ∃ z, z = decide ((((kind l).toNat : Int) = 76) ∧ endV (stP (body l) 3).1 (stP (body l) 3).2 = 0) := ⟨_, rfl⟩
    have HT : Hid (∀ y, Below w.heap.size w y → ∀ yy, yy = y.alloc (.cells #[.pointer (some ⟨p, 2, none⟩), .pointer (some ⟨p, 3, none⟩), .pointer (some ⟨p, 4, none⟩)] 114) → Below w1.heap.size w1 y → Calls Tryz.prog 70 #[.agg #[.int .u8 ((kind l).toNat : Int), .slice (some ⟨g9, 0, none⟩) (body l).length bc, .int .i64 (a : Int), .int .i64 (b : Int)], .int .u8 76, .slice (some ⟨y.heap.size, 0, none⟩) 3 3] yy fun e w' => e = .returned (.bool z7) ∧ w'.heap[p]? = some (.cells (setJ cs 2 (body l) 3) 82 (0, 0)) ∧ yy.grownBy w' (some p)) := fun y hy yy hyy hy1 => by
      have B6 : Below y.heap.size y yy := by rw [hyy]; exact (Below.refl _ _).alloc (Nat.le_refl _) _
      have N6 : yy.heap[y.heap.size]? = some (.cells #[.pointer (some ⟨p, 2, none⟩), .pointer (some ⟨p, 3, none⟩), .pointer (some ⟨p, 4, none⟩)] 114 (0, 0)) := by rw [hyy]; exact heap_alloc_new y _
      have r1 := (R9.below hy1 R9.lt)
      have r2 := r1.below B6 r1.lt
      have hl := body_le l
      have lp := HP.out.2.1
      have e := takeN_any yy (kind l).toNat (body l).length bc a b 76 (some ⟨g9, 0, none⟩) (body l) rfl (by have := HP.out.2.2.2.2; omega) r2.rd y.heap.size 3 p 2 82 cs N6 ((B6.block p (Nat.lt_of_lt_of_le lp hy.size)).trans ((hy.block p lp).trans HP.out.1)) (by have := hy.size; omega) (by have := HP.out.2.2.1; omega) HP.out.2.2.2.1 (by decide)
      rw [← hz7] at e
      exact e
    have HWL := Lib.hid (And.intro hwl hz7)
    have HBX := Lib.hid HB1.out.1.drew
    clear hwl hz7 hb5
    refine wp_region_noPanic ?_
    refine wp_region_held_drew (S := fun y : World => y.heap[b5]? = some (.cells #[.int .u8 ((kind l).toNat : Int), .slice (some ⟨g9, 0, none⟩) (body l).length bc, .int .i64 (a : Int), .int .i64 (b : Int)] 75)) (by kernel_rfl) N5.out (fun hHeld => ?_)
    generalize w2.drew = wd at *
    refine wpAnyH_take (i := 0) (oi := ⟨some 12, .move (.tmp 6), 4, "files.go:31", #[], none⟩) (v := .bool true) rfl (by kernel_rfl) (by kernel_rfl) (by kernel_rfl) (fun _ _ _ h => h) (Or.inl ⟨by rfl, fun w hSw => by go_simp⟩) (by assumption) ?_
    try simp only [Act.put, stA, stB, stC]
    refine wpAnyH_take (i := 1) (oi := ⟨some 13, .move (.tmp 12), 4, "files.go:31", #[⟨0, .data⟩], none⟩) (v := .bool true) rfl (by kernel_rfl) (by kernel_rfl) (by kernel_rfl) (fun _ _ _ h => h) (Or.inl ⟨by rfl, fun w hSw => by go_simp⟩) (by assumption) ?_
    try simp only [Act.put, stA, stB, stC]
    refine wpAnyH_take (i := 2) (oi := ⟨some 14, .load 75 (.tmp 5), 75, "files.go:31", #[⟨1, .guard⟩], some (1, true)⟩) (v := .agg #[.int .u8 ((kind l).toNat : Int), .slice (some ⟨g9, 0, none⟩) (body l).length bc, .int .i64 (a : Int), .int .i64 (b : Int)]) rfl (by kernel_rfl) (by kernel_rfl) (by kernel_rfl) (fun _ _ _ h => h) (Or.inl ⟨by rfl, fun w hSw => by obtain ⟨z0, z1, z2, z3, -⟩ := Frm.cells4 hSw; go_simp⟩) (by assumption) ?_
    try simp only [Act.put, stA, stB, stC]
    refine wpAnyH_take (i := 3) (oi := ⟨some 15, .move (.tmp 0), 26, "files.go:31", #[⟨1, .guard⟩], some (1, true)⟩) (v := .pointer (some ⟨p, 0, none⟩)) rfl (by kernel_rfl) (by kernel_rfl) (by kernel_rfl) (fun _ _ _ h => h) (Or.inl ⟨by rfl, fun w hSw => by go_simp⟩) (by assumption) ?_
    try simp only [Act.put, stA, stB, stC]
    refine wpAnyH_take (i := 4) (oi := ⟨some 16, .nilCheck (.tmp 15), 0, "files.go:31", #[⟨3, .data⟩, ⟨1, .guard⟩], some (1, true)⟩) (v := .pointer (some ⟨p, 0, none⟩)) rfl (by kernel_rfl) (by kernel_rfl) (by kernel_rfl) (fun _ _ _ h => h) (Or.inl ⟨by rfl, fun w hSw => by go_simp⟩) (by assumption) ?_
    try simp only [Act.put, stA, stB, stC]
    refine wpAnyH_take (i := 5) (oi := ⟨some 17, .fieldAddr 82 (.tmp 16) 2, 0, "files.go:31", #[⟨4, .data⟩, ⟨1, .guard⟩], some (1, true)⟩) (v := .pointer (some ⟨p, 2, none⟩)) rfl (by kernel_rfl) (by kernel_rfl) (by kernel_rfl) (fun _ _ _ h => h) (Or.inl ⟨by rfl, fun w hSw => by go_simp⟩) (by assumption) ?_
    try simp only [Act.put, stA, stB, stC]
    refine wpAnyH_take (i := 6) (oi := ⟨some 18, .fieldAddr 45 (.tmp 17) 0, 0, "files.go:31", #[⟨5, .data⟩, ⟨1, .guard⟩], some (1, true)⟩) (v := .pointer (some ⟨p, 2, none⟩)) rfl (by kernel_rfl) (by kernel_rfl) (by kernel_rfl) (fun _ _ _ h => h) (Or.inl ⟨by rfl, fun w hSw => by go_simp⟩) (by assumption) ?_
    try simp only [Act.put, stA, stB, stC]
    refine wpAnyH_take (i := 7) (oi := ⟨some 19, .move (.tmp 0), 26, "files.go:31", #[⟨1, .guard⟩], some (1, true)⟩) (v := .pointer (some ⟨p, 0, none⟩)) rfl (by kernel_rfl) (by kernel_rfl) (by kernel_rfl) (fun _ _ _ h => h) (Or.inl ⟨by rfl, fun w hSw => by go_simp⟩) (by assumption) ?_
    try simp only [Act.put, stA, stB, stC]
    refine wpAnyH_take (i := 8) (oi := ⟨some 20, .nilCheck (.tmp 19), 0, "files.go:31", #[⟨7, .data⟩, ⟨1, .guard⟩], some (1, true)⟩) (v := .pointer (some ⟨p, 0, none⟩)) rfl (by kernel_rfl) (by kernel_rfl) (by kernel_rfl) (fun _ _ _ h => h) (Or.inl ⟨by rfl, fun w hSw => by go_simp⟩) (by assumption) ?_
    try simp only [Act.put, stA, stB, stC]
    refine wpAnyH_take (i := 9) (oi := ⟨some 21, .fieldAddr 82 (.tmp 20) 2, 0, "files.go:31", #[⟨8, .data⟩, ⟨1, .guard⟩], some (1, true)⟩) (v := .pointer (some ⟨p, 2, none⟩)) rfl (by kernel_rfl) (by kernel_rfl) (by kernel_rfl) (fun _ _ _ h => h) (Or.inl ⟨by rfl, fun w hSw => by go_simp⟩) (by assumption) ?_
    try simp only [Act.put, stA, stB, stC]
    refine wpAnyH_take (i := 10) (oi := ⟨some 22, .fieldAddr 45 (.tmp 21) 1, 0, "files.go:31", #[⟨9, .data⟩, ⟨1, .guard⟩], some (1, true)⟩) (v := .pointer (some ⟨p, 3, none⟩)) rfl (by kernel_rfl) (by kernel_rfl) (by kernel_rfl) (fun _ _ _ h => h) (Or.inl ⟨by rfl, fun w hSw => by go_simp⟩) (by assumption) ?_
    try simp only [Act.put, stA, stB, stC]
    refine wpAnyH_take (i := 11) (oi := ⟨some 23, .move (.tmp 0), 26, "files.go:31", #[⟨1, .guard⟩], some (1, true)⟩) (v := .pointer (some ⟨p, 0, none⟩)) rfl (by kernel_rfl) (by kernel_rfl) (by kernel_rfl) (fun _ _ _ h => h) (Or.inl ⟨by rfl, fun w hSw => by go_simp⟩) (by assumption) ?_
    try simp only [Act.put, stA, stB, stC]
    refine wpAnyH_take (i := 12) (oi := ⟨some 24, .nilCheck (.tmp 23), 0, "files.go:31", #[⟨11, .data⟩, ⟨1, .guard⟩], some (1, true)⟩) (v := .pointer (some ⟨p, 0, none⟩)) rfl (by kernel_rfl) (by kernel_rfl) (by kernel_rfl) (fun _ _ _ h => h) (Or.inl ⟨by rfl, fun w hSw => by go_simp⟩) (by assumption) ?_
    try simp only [Act.put, stA, stB, stC]
    refine wpAnyH_take (i := 13) (oi := ⟨some 25, .fieldAddr 82 (.tmp 24) 2, 0, "files.go:31", #[⟨12, .data⟩, ⟨1, .guard⟩], some (1, true)⟩) (v := .pointer (some ⟨p, 2, none⟩)) rfl (by kernel_rfl) (by kernel_rfl) (by kernel_rfl) (fun _ _ _ h => h) (Or.inl ⟨by rfl, fun w hSw => by go_simp⟩) (by assumption) ?_
    try simp only [Act.put, stA, stB, stC]
    refine wpAnyH_take (i := 14) (oi := ⟨some 26, .fieldAddr 45 (.tmp 25) 2, 0, "files.go:31", #[⟨13, .data⟩, ⟨1, .guard⟩], some (1, true)⟩) (v := .pointer (some ⟨p, 4, none⟩)) rfl (by kernel_rfl) (by kernel_rfl) (by kernel_rfl) (fun _ _ _ h => h) (Or.inl ⟨by rfl, fun w hSw => by go_simp⟩) (by assumption) ?_
    try simp only [Act.put, stA, stB, stC]
    refine wpAnyH_ready (rs := [15]) (by kernel_rfl) (by simp) ?_
    refine AllReadyH.cons (o := ⟨some 27, .buildSlice 134 3 #[(0, .tmp 18), (1, .tmp 22), (2, .tmp 26)], 134, "files.go:31", #[⟨6, .data⟩, ⟨10, .data⟩, ⟨14, .data⟩, ⟨1, .guard⟩], some (1, true)⟩) rfl (fun K hK => ?_) AllReadyH.nil
    go_simp
    have B6 : Below wd.heap.size wd (wd.alloc (.cells #[.pointer (some ⟨p, 2, none⟩), .pointer (some ⟨p, 3, none⟩), .pointer (some ⟨p, 4, none⟩)] 114)) := (Below.refl _ _).alloc (Nat.le_refl _) _
    have N6 := heap_alloc_new wd (.cells #[.pointer (some ⟨p, 2, none⟩), .pointer (some ⟨p, 3, none⟩), .pointer (some ⟨p, 4, none⟩)] 114)
    have hq := (B6.block _ (Array.getElem?_eq_some_iff.1 hHeld).1).trans hHeld
    have c70 := HT.out wd HBW.out _ rfl HBX.out
    have BW := HBW.out.trans (B6.mono HBW.out.size)
    clear HBW
    have HBW := Lib.hid BW
    generalize wd.alloc (.cells #[.pointer (some ⟨p, 2, none⟩), .pointer (some ⟨p, 3, none⟩), .pointer (some ⟨p, 4, none⟩)] 114) = wd6 at *
    clear BW B6 N6
    refine hK.out _ _ (hq) (fun hHeld => ?_)
    clear hK K
    try simp only [Act.put, stA, stB, stC]
    clear hq
    refine wpAnyH_ready (rs := [16]) (by kernel_rfl) (by simp) ?_
    refine AllReadyH.cons (o := ⟨some 28, .call ⟨.value (.func 70), #[.tmp 14, .const (.int .u8 76), .tmp 27], #[75, 5, 134]⟩, 4, "files.go:31", #[⟨2, .data⟩, ⟨15, .data⟩, ⟨1, .chain⟩, ⟨1, .guard⟩], some (1, true)⟩) rfl (fun K hK => ?_) AllReadyH.nil
    go_simp
    refine c70.mono ?_
    rintro e w7 ⟨rfl, h7, G7⟩
    have hq := (G7.block b5 (Array.getElem?_eq_some_iff.1 hHeld).1 (fun e => HNE.out (by injection e with e; exact e.symm))).trans hHeld
    have H7 := Lib.hid (And.intro h7 (below_grownX HBW.out G7))
    clear h7 G7 c70
    refine hK.out _ _ (hq) (fun hHeld => ?_)
    clear hK K
    try simp only [Act.put, stA, stB, stC]
    clear hq
    refine wpAnyH_take (i := 17) (oi := ⟨some 29, .pick (.tmp 13) (.tmp 28) (.const (.bool false)), 4, "files.go:31", #[⟨1, .data⟩, ⟨16, .data⟩], none⟩) (v := .bool z7) rfl (by kernel_rfl) (by kernel_rfl) (by kernel_rfl) (fun _ _ _ h => h) (Or.inl ⟨by rfl, fun w hSw => by go_simp⟩) (by assumption) ?_
    try simp only [Act.put, stA, stB, stC]
    refine wpAnyH_take (i := 18) (oi := ⟨some 4, .assign (.tmp 29), 4, "files.go:31", #[⟨17, .data⟩, ⟨16, .chain⟩, ⟨0, .phase⟩, ⟨1, .phase⟩, ⟨2, .phase⟩, ⟨3, .phase⟩, ⟨4, .phase⟩, ⟨5, .phase⟩, ⟨6, .phase⟩, ⟨7, .phase⟩, ⟨8, .phase⟩, ⟨9, .phase⟩, ⟨10, .phase⟩, ⟨11, .phase⟩, ⟨12, .phase⟩, ⟨13, .phase⟩, ⟨14, .phase⟩, ⟨15, .phase⟩, ⟨16, .phase⟩, ⟨17, .phase⟩], none⟩) (v := .bool z7) rfl (by kernel_rfl) (by kernel_rfl) (by kernel_rfl) (fun _ _ _ h => h) (Or.inl ⟨by rfl, fun w hSw => by go_simp⟩) (by assumption) ?_
    try simp only [Act.put, stA, stB, stC]
    refine wpAnyH_done (by kernel_rfl) ?_ _
    try unfold NoPanic
    go_wp2
    go_ret
    have hw : whole l = true := HWL.out.1.symm
    refine ⟨by unfold hdOk; rw [hw, HWL.out.2]; rfl, H7.out.2, ?_⟩
    rw [hw]
    exact H7.out.1
theorem takeBase_none (w : World) (p q mo hF hU : Nat) (bA vA : Value) (hp : w.heap[p]? = some (.cells #[.pointer (some ⟨q, 0, none⟩), .int .i64 (mo : Int), .int .u64 (hF : Int), .int .u64 0, .int .u64 (hU : Int), bA, vA, .bool false] 82 (0, 0))) :
    Calls Tryz.prog 40 #[.pointer (some ⟨p, 0, none⟩)] w fun e w' => e = .returned (.bool true) ∧ w = w' := by
  obtain ⟨p0, p1, p2, p3, p4, p5, p6, p7, -⟩ := row8 hp
  clear hp
  go_enter Tryz.func40, Tryz.ntmps40
  go_wp2
  go_ret
  exact ⟨rfl, rfl⟩
theorem fresh_form {w : World} {B : Nat} {v : Value} {l : S} (h : Shf.Fresh w B v l) : ∃ A c, v = .slice A l.length c ∧ Rd w w.heap.size A l ∧ l.length ≤ c ∧ (A = none → c = 0) :=
  by
  rcases h.1 with ⟨rfl, rfl⟩ | ⟨g, cap, cur, rfl, hg, h2, h3, h4, h5⟩
  · exact ⟨none, 0, rfl, Coin.Rd.nil _ _ _, Nat.le_refl _, fun _ => rfl⟩
  · refine ⟨_, cap, rfl, fun h0 => ⟨_, rfl, (Array.getElem?_eq_some_iff.1 hg).1, fun j hj => ?_⟩, h2, fun h => by cases h⟩
    rw [Shf.zero_add', cell_of_row w g j _ 5 (0, 0) hg]
    have e : (cur.toList.take l.length)[j]? = (l.map Shf.b8)[j]? := by rw [h5]
    rw [List.getElem?_take_of_lt hj, List.getElem?_map, List.getElem?_eq_getElem hj] at e
    rw [Array.getElem?_toList] at e
    exact e
set_option maxHeartbeats 2000000 in
theorem takeBase_any (w : World) (T : Nat → Tag) (p q : Nat) (m : M) (R : Rep w T q m) (mo hF hB hU : Nat) (hp : w.heap[p]? = some (.cells #[.pointer (some ⟨q, 0, none⟩), .int .i64 (mo : Int), .int .u64 (hF : Int), .int .u64 (hB : Int), .int .u64 (hU : Int), .slice none 0 0, .slice none 0 0, .bool false] 82 (0, 0))) (hB0 : hB ≠ 0) (hB1 : hB < 100) (hlen : (m.readP (bName hB)).length ≤ 900000) :
    Calls Tryz.prog 40 #[.pointer (some ⟨p, 0, none⟩)] w fun e w' => ∃ A9 bn bc, e = .returned (.bool (decide (m.readE (bName hB) = 0) && (whole (m.readP (bName hB)) && decide ((kind (m.readP (bName hB))).toNat = 98)))) ∧ w.grownBy w' (some p) ∧ w'.heap[p]? = some (.cells #[.pointer (some ⟨q, 0, none⟩), .int .i64 (mo : Int), .int .u64 (hF : Int), .int .u64 (hB : Int), .int .u64 (hU : Int), .slice A9 bn bc, .slice none 0 0, .bool false] 82 (0, 0)) ∧
      (m.readE (bName hB) = 0 → whole (m.readP (bName hB)) = true → bn = (body (m.readP (bName hB))).length ∧ PAt w' T A9 bc (body (m.readP (bName hB)))) := by
  have hpl := (Array.getElem?_eq_some_iff.1 hp).1
  obtain ⟨l, hl⟩ : ∃ x, x = m.readP (bName hB) := ⟨_, rfl⟩
  obtain ⟨re, hre⟩ : ∃ x, x = m.readE (bName hB) := ⟨_, rfl⟩
  obtain ⟨n, hn⟩ : ∃ x, x = l.length := ⟨_, rfl⟩
  have hbn : (bName hB).length ≤ 1000 := bName_le hB hB1
  have HRD : Hid (∀ y, Below w.heap.size w y → Calls Tryz.prog 25 #[.pointer (some ⟨q, 0, none⟩), .string (str (bName hB))] y fun e w' => ∃ A c, e = .returned (.tuple #[.slice A n c, .int .i64 (re : Int)]) ∧ Rd w' w'.heap.size A l ∧ l.length ≤ c ∧ (A = none → c = 0) ∧ Below y.heap.size y w') := fun y hy => by
    refine (Shf.read_rep y T q m (bName hB) (R.below hy) hbn).mono ?_
    rintro e w' ⟨v, rfl, hf, hb⟩
    obtain ⟨A, c, rfl, h1, h2, h3⟩ := fresh_form hf
    rw [← hl] at h1 h2
    exact ⟨A, c, by rw [hn, hl, hre], h1, h2, h3, hb⟩
  have HRW := Lib.hid (And.intro hp hpl)
  have HB1 := Lib.hid hB1
  have HB0 : Hid (¬ (hB : Int) = 0) := by show ¬ _; omega
  rw [← hl, ← hre]
  rw [← hl] at hlen
  have HL := Lib.hid (And.intro hn hlen)
  have HTN : Hid (∀ b, w.heap.size ≤ b → T b = .none) := fun b hb => rep_old R hb
  obtain ⟨p0, p1, p2, p3, p4, p5, p6, p7, -⟩ := row8 hp
  have h0' := HB0.out
  clear hp hpl R hB0 hB1 hlen hl hre hn hbn p0 p1 p2 p4 p5 p6 p7
  go_enter Tryz.func40, Tryz.ntmps40
  go_upto_region 3 with (fail)
  clear p3
  refine wp_region_noPanic ?_
  refine wp_region_held_drew (S := fun y : World => Below w.heap.size w y) (by kernel_rfl) (Below.refl _ _).drew (fun hHeld => ?_)
  generalize w.drew = wd at *
  refine wpAnyH_take (i := 0) (oi := ⟨some 14, .move (.tmp 0), 26, "files.go:39", #[], none⟩) (v := .pointer (some ⟨p, 0, none⟩)) rfl (by kernel_rfl) (by kernel_rfl) (by kernel_rfl) (fun _ _ _ h => h) (Or.inl ⟨by rfl, fun w hSw => by go_simp⟩) (by assumption) ?_
  try simp only [Act.put, stA, stB, stC]
  refine wpAnyH_take (i := 1) (oi := ⟨some 15, .nilCheck (.tmp 14), 0, "files.go:39", #[⟨0, .data⟩], none⟩) (v := .pointer (some ⟨p, 0, none⟩)) rfl (by kernel_rfl) (by kernel_rfl) (by kernel_rfl) (fun _ _ _ h => h) (Or.inl ⟨by rfl, fun w hSw => by go_simp⟩) (by assumption) ?_
  try simp only [Act.put, stA, stB, stC]
  refine wpAnyH_take (i := 2) (oi := ⟨some 16, .fieldAddr 82 (.tmp 15) 0, 0, "files.go:39", #[⟨1, .data⟩], none⟩) (v := .pointer (some ⟨p, 0, none⟩)) rfl (by kernel_rfl) (by kernel_rfl) (by kernel_rfl) (fun _ _ _ h => h) (Or.inl ⟨by rfl, fun w hSw => by go_simp⟩) (by assumption) ?_
  try simp only [Act.put, stA, stB, stC]
  refine wpAnyH_take (i := 3) (oi := ⟨some 17, .load 24 (.tmp 16), 24, "files.go:39", #[⟨2, .data⟩], none⟩) (v := .pointer (some ⟨q, 0, none⟩)) rfl (by kernel_rfl) (by kernel_rfl) (by kernel_rfl) (fun _ _ _ h => h) (Or.inl ⟨by rfl, fun w hSw => by obtain ⟨p0, p1, p2, p3, p4, p5, p6, p7, -⟩ := row8 ((hSw.block p HRW.out.2).trans HRW.out.1); go_simp⟩) (by assumption) ?_
  try simp only [Act.put, stA, stB, stC]
  refine wpAnyH_take (i := 4) (oi := ⟨some 18, .move (.tmp 0), 26, "files.go:39", #[], none⟩) (v := .pointer (some ⟨p, 0, none⟩)) rfl (by kernel_rfl) (by kernel_rfl) (by kernel_rfl) (fun _ _ _ h => h) (Or.inl ⟨by rfl, fun w hSw => by go_simp⟩) (by assumption) ?_
  try simp only [Act.put, stA, stB, stC]
  refine wpAnyH_take (i := 5) (oi := ⟨some 19, .nilCheck (.tmp 18), 0, "files.go:39", #[⟨4, .data⟩], none⟩) (v := .pointer (some ⟨p, 0, none⟩)) rfl (by kernel_rfl) (by kernel_rfl) (by kernel_rfl) (fun _ _ _ h => h) (Or.inl ⟨by rfl, fun w hSw => by go_simp⟩) (by assumption) ?_
  try simp only [Act.put, stA, stB, stC]
  refine wpAnyH_take (i := 6) (oi := ⟨some 20, .fieldAddr 82 (.tmp 19) 2, 0, "files.go:39", #[⟨5, .data⟩], none⟩) (v := .pointer (some ⟨p, 2, none⟩)) rfl (by kernel_rfl) (by kernel_rfl) (by kernel_rfl) (fun _ _ _ h => h) (Or.inl ⟨by rfl, fun w hSw => by go_simp⟩) (by assumption) ?_
  try simp only [Act.put, stA, stB, stC]
  refine wpAnyH_take (i := 7) (oi := ⟨some 21, .fieldAddr 45 (.tmp 20) 1, 0, "files.go:39", #[⟨6, .data⟩], none⟩) (v := .pointer (some ⟨p, 3, none⟩)) rfl (by kernel_rfl) (by kernel_rfl) (by kernel_rfl) (fun _ _ _ h => h) (Or.inl ⟨by rfl, fun w hSw => by go_simp⟩) (by assumption) ?_
  try simp only [Act.put, stA, stB, stC]
  refine wpAnyH_take (i := 8) (oi := ⟨some 22, .load 42 (.tmp 21), 42, "files.go:39", #[⟨7, .data⟩], none⟩) (v := .int .u64 (hB : Int)) rfl (by kernel_rfl) (by kernel_rfl) (by kernel_rfl) (fun _ _ _ h => h) (Or.inl ⟨by rfl, fun w hSw => by obtain ⟨p0, p1, p2, p3, p4, p5, p6, p7, -⟩ := row8 ((hSw.block p HRW.out.2).trans HRW.out.1); go_simp⟩) (by assumption) ?_
  try simp only [Act.put, stA, stB, stC]
  refine wpAnyH_ready (rs := [9]) (by kernel_rfl) (by simp) ?_
  refine AllReadyH.cons (o := ⟨some 23, .call ⟨.value (.func 33), #[.tmp 22], #[42]⟩, 9, "files.go:39", #[⟨8, .data⟩], none⟩) rfl (fun K hK => ?_) AllReadyH.nil
  go_simp
  refine (base_any wd hB HB1.out).mono ?_
  rintro e wx ⟨rfl, rfl⟩
  refine hK.out _ _ (hHeld) (fun hHeld => ?_)
  clear hK K
  try simp only [Act.put, stA, stB, stC]
  skip
  refine wpAnyH_ready (rs := [10]) (by kernel_rfl) (by simp) ?_
  refine AllReadyH.cons (o := ⟨some 24, .call ⟨.value (.func 25), #[.tmp 17, .tmp 23], #[24, 9]⟩, 55, "files.go:39", #[⟨3, .data⟩, ⟨9, .data⟩, ⟨9, .chain⟩], none⟩) rfl (fun K hK => ?_) AllReadyH.nil
  go_simp
  refine (HRD.out wd hHeld).mono ?_
  rintro e w3 ⟨A, c, rfl, hr, hc, hA, B3⟩
  have H3 := Lib.hid (And.intro hr (And.intro hc hA))
  clear hr hc hA
  refine hK.out _ _ (hHeld.trans (B3.mono hHeld.size)) (fun hHeld => ?_)
  clear hK K
  try simp only [Act.put, stA, stB, stC]
  clear B3
  refine wpAnyH_take (i := 11) (oi := ⟨some 13, .move (.tmp 24), 55, "files.go:39", #[⟨10, .data⟩], none⟩) (v := .tuple #[.slice A n c, .int .i64 (re : Int)]) rfl (by kernel_rfl) (by kernel_rfl) (by kernel_rfl) (fun _ _ _ h => h) (Or.inl ⟨by rfl, fun w hSw => by go_simp⟩) (by assumption) ?_
  try simp only [Act.put, stA, stB, stC]
  refine wpAnyH_take (i := 12) (oi := ⟨some 25, .extract (.tmp 13) 0, 30, "files.go:39", #[⟨11, .data⟩], none⟩) (v := .slice A n c) rfl (by kernel_rfl) (by kernel_rfl) (by kernel_rfl) (fun _ _ _ h => h) (Or.inl ⟨by rfl, fun w hSw => by go_simp⟩) (by assumption) ?_
  try simp only [Act.put, stA, stB, stC]
  refine wpAnyH_take (i := 13) (oi := ⟨some 26, .extract (.tmp 13) 1, 27, "files.go:39", #[⟨11, .data⟩, ⟨14, .gcOnly .lateStores⟩], none⟩) (v := .int .i64 (re : Int)) rfl (by kernel_rfl) (by kernel_rfl) (by kernel_rfl) (fun _ _ _ h => h) (Or.inl ⟨by rfl, fun w hSw => by go_simp⟩) (by assumption) ?_
  try simp only [Act.put, stA, stB, stC]
  refine wpAnyH_take (i := 14) (oi := ⟨some 3, .assign (.tmp 25), 30, "files.go:39", #[⟨12, .data⟩, ⟨10, .chain⟩, ⟨0, .phase⟩, ⟨1, .phase⟩, ⟨2, .phase⟩, ⟨3, .phase⟩, ⟨4, .phase⟩, ⟨5, .phase⟩, ⟨6, .phase⟩, ⟨7, .phase⟩, ⟨8, .phase⟩, ⟨9, .phase⟩, ⟨10, .phase⟩, ⟨11, .phase⟩, ⟨12, .phase⟩, ⟨13, .textOnly .lateStores⟩], none⟩) (v := .slice A n c) rfl (by kernel_rfl) (by kernel_rfl) (by kernel_rfl) (fun _ _ _ h => h) (Or.inl ⟨by rfl, fun w hSw => by go_simp⟩) (by assumption) ?_
  try simp only [Act.put, stA, stB, stC]
  refine wpAnyH_take (i := 15) (oi := ⟨some 4, .assign (.tmp 26), 27, "files.go:39", #[⟨13, .data⟩, ⟨14, .chain⟩, ⟨0, .phase⟩, ⟨1, .phase⟩, ⟨2, .phase⟩, ⟨3, .phase⟩, ⟨4, .phase⟩, ⟨5, .phase⟩, ⟨6, .phase⟩, ⟨7, .phase⟩, ⟨8, .phase⟩, ⟨9, .phase⟩, ⟨10, .phase⟩, ⟨11, .phase⟩, ⟨12, .phase⟩, ⟨13, .phase⟩, ⟨14, .phase⟩], none⟩) (v := .int .i64 (re : Int)) rfl (by kernel_rfl) (by kernel_rfl) (by kernel_rfl) (fun _ _ _ h => h) (Or.inl ⟨by rfl, fun w hSw => by go_simp⟩) (by assumption) ?_
  try simp only [Act.put, stA, stB, stC]
  refine wpAnyH_done (by kernel_rfl) ?_ _
  try unfold NoPanic
  by_cases h0 : re = 0
  · have h1' : (re : Int) = 0 := by omega
    have HRE := Lib.hid h0
    clear h0
    have c69 := alone2_any A c w3.heap.size l w3 HL.out.2 H3.out.2.1 H3.out.2.2 (Nat.le_refl _) H3.out.1
    rw [← HL.out.1] at c69
    go_upto_region 7 with (go_at_call 69; (with_reducible refine c69.mono ?_); rintro e w4 ⟨k, bn, bc, a, b, A9, rfl, B4, hk, hA9, hbc, hb0, hw⟩; have hbn9 := hbc; have H4 := Lib.hid (And.intro (hHeld.trans (B4.mono hHeld.size)) (And.intro hA9 hw)); clear B4 hk hA9 hbc hb0 hw c69)
    obtain ⟨wl, hwl⟩ : ∃ x, x = whole l := ⟨_, rfl⟩
    rw [← hwl]
    have N5 := heap_alloc_new w4 (.cells #[.int .u8 (k : Int), .slice A9 bn bc, .int .i64 (a : Int), .int .i64 (b : Int)] 75)
    have B5 : Below w4.heap.size w4 (w4.alloc (.cells #[.int .u8 (k : Int), .slice A9 bn bc, .int .i64 (a : Int), .int .i64 (b : Int)] 75)) := (Below.refl _ _).alloc (Nat.le_refl _) _
    have B6 := H4.out.1.trans (B5.mono H4.out.1.size)
    generalize w4.alloc (.cells #[.int .u8 (k : Int), .slice A9 bn bc, .int .i64 (a : Int), .int .i64 (b : Int)] 75) = w5 at *
    obtain ⟨b5, hb5⟩ : ∃ x, x = w4.heap.size := ⟨_, rfl⟩
    rw [← hb5] at N5 ⊢
    have r5 := (B6.block p HRW.out.2).trans HRW.out.1
    obtain ⟨q0, q1, q2, q3, q4, q5, q6, q7, fz⟩ := row8 r5
    obtain ⟨y0, y1, y2, y3, yf⟩ := Frm.cells4 N5
    have hne : b5 ≠ p := by have h1 := H4.out.1.size; have h2 := HRW.out.2; omega
    have G := Shf.grown_set w5 p 5 (.slice A9 bn bc)
    have r6 := heap_setCell_same w5 p 5 _ 82 (.slice A9 bn bc) r5
    have N6 := (G.block b5 (Array.getElem?_eq_some_iff.1 N5).1 (fun e => hne (by injection e))).trans N5
    obtain ⟨x0, x1, x2, x3, xf⟩ := Frm.cells4 N6
    have HEND : Hid (w.grownBy (w5.setCell ⟨p, 5, none⟩ (.slice A9 bn bc)) (some p) ∧ (w5.setCell ⟨p, 5, none⟩ (.slice A9 bn bc)).heap[p]? = some (.cells #[.pointer (some ⟨q, 0, none⟩), .int .i64 (mo : Int), .int .u64 (hF : Int), .int .u64 (hB : Int), .int .u64 (hU : Int), .slice A9 bn bc, .slice none 0 0, .bool false] 82 (0, 0)) ∧ (whole l = true → bn = (body l).length ∧ k = (kind l).toNat ∧ PAt (w5.setCell ⟨p, 5, none⟩ (.slice A9 bn bc)) T A9 bc (body l))) := by
      refine ⟨below_grownX B6 G, r6, fun hw => ?_⟩
      obtain ⟨k1, k2, g9, k3, k4, k5⟩ := H4.out.2.2 hw
      have r1 := k5.below B5 k5.lt
      have ne2 : g9 ≠ p := by have h1 := hHeld.size; have h2 := HRW.out.2; omega
      have r2 : Row (w5.setCell ⟨p, 5, none⟩ (.slice A9 bn bc)) g9 (body l) := (G.block g9 r1.lt (fun e => ne2 (by injection e))).trans r1
      have hA := H4.out.2.1
      refine ⟨k2, k1, ⟨hA, ?_, fun _ => ⟨g9, 0, _, k3, r2, HTN.out g9 (Nat.le_trans hHeld.size k4), fun j hj => by
        rw [Nat.zero_add, List.getElem?_toArray, List.getElem?_map, List.getElem?_eq_getElem hj]
        rfl⟩⟩⟩
      rw [← k2]; exact hbn9
    clear N6 G r5 r6 B5 B6 N5 hb5 hne
    cases wl with
    | false =>
      have HW := Lib.hid (show whole l = false from hwl.symm)
      clear hwl
      go_wp2
      go_ret
      exact ⟨A9, bn, bc, by rw [HW.out, HRE.out]; rfl, HEND.out.1, HEND.out.2.1, fun _ h => absurd (h.symm.trans HW.out) (by decide)⟩
    | true =>
      have hw : whole l = true := hwl.symm
      have HW := Lib.hid hw
      clear hw hwl
      go_wp2
      go_ret
      refine ⟨A9, bn, bc, ?_, HEND.out.1, HEND.out.2.1, fun _ h => ⟨(HEND.out.2.2 h).1, (HEND.out.2.2 h).2.2⟩⟩
      rw [HW.out, HRE.out, (HEND.out.2.2 HW.out).2.1]
      by_cases h : (kind l).toNat = 98
      · rw [h]; rfl
      · have h2 : ¬ ((kind l).toNat : Int) = 98 := by omega
        simp [h, h2]
  · have h1' : ¬ (re : Int) = 0 := by omega
    have HRE := Lib.hid h0
    clear h0
    go_wp2
    go_ret
    refine ⟨none, 0, 0, ?_, ⟨hHeld.os, hHeld.tape, hHeld.output, hHeld.size, fun k hk _ => hHeld.block k hk⟩, (hHeld.block p HRW.out.2).trans HRW.out.1, fun h => absurd h HRE.out⟩
    rw [decide_eq_false HRE.out]
    rfl
end Go.Proofs.YtdbhgkbmbbjpdaaGreatDoor.Chr
