/- The frame that some bytes are. -/
import Derived.Test.YtdbhgkbmbbjpdaaGreatDoorNb
import Derived.Deep.DeepCutAuto
import Derived.Deep.RegionHeld3
import Derived.OwnWalk
namespace Go.Proofs.YtdbhgkbmbbjpdaaGreatDoor.Chr
open Go.ChangeShapes Go.WideShapes Go.ChangeAt Go.RowKit
open Shf (S str)
open Coin (Rd Row Own sz coin got Pur takeV endV CoinSaid)
open Frm (pack err size kind cnt body noItem itemV OneSaid)
set_option maxRecDepth 8000

/-- They are one frame. -/
def whole (l : S) : Bool := decide (err l = 0 ∧ size l = l.length)
def AloneSaid (w : World) (l : S) (e : Ending) (w' : World) : Prop :=
  ∃ (k n c a b : Nat) (A : Option Addr), e = .returned (.tuple #[.agg #[.int .u8 (k : Int), .slice A n c, .int .i64 (a : Int), .int .i64 (b : Int)], .bool (whole l)]) ∧ Below w.heap.size w w' ∧
    k < 256 ∧ (A = none → c = 0) ∧ n ≤ c ∧ (n = 0 ∨ n = (body l).length) ∧
    (whole l = true → k = (kind l).toNat ∧ n = (body l).length ∧ Rd w' w'.heap.size A (body l))
theorem put4 {w : World} {g : Nat} {t : TypeId} {x0 x1 x2 x3 : Value} (h : w.heap[g]? = some (.cells #[x0, x1, x2, x3] t)) (y0 y1 y2 y3 : Value) :
    ((((w.setCell ⟨g, 0, none⟩ y0).setCell ⟨g, 1, none⟩ y1).setCell ⟨g, 2, none⟩ y2).setCell ⟨g, 3, none⟩ y3).heap[g]? = some (.cells #[y0, y1, y2, y3] t) := by
  have e := heap_setCell_same _ g 3 _ t y3 (heap_setCell_same _ g 2 _ t y2 (heap_setCell_same _ g 1 _ t y1 (heap_setCell_same _ g 0 _ t y0 h)))
  rw [e]
  rfl
theorem set4_grown (w : World) (g : Nat) (y0 y1 y2 y3 : Value) : w.grownBy ((((w.setCell ⟨g, 0, none⟩ y0).setCell ⟨g, 1, none⟩ y1).setCell ⟨g, 2, none⟩ y2).setCell ⟨g, 3, none⟩ y3) (some g) :=
  (((Shf.grown_set w g 0 y0).trans (Shf.grown_set _ g 1 y1)).trans (Shf.grown_set _ g 2 y2)).trans (Shf.grown_set _ g 3 y3)
theorem body_len (l : S) (h : err l = 0) : (body l).length = cnt l := by
  have h1 := (Frm.err_ok l h).2.2.1
  unfold Frm.body
  rw [List.length_take, List.length_drop]
  unfold Frm.size at h1
  omega
/-- What frame.One says of the whole. -/
theorem one0 {w : World} {l : S} {e : Ending} {w' : World} (h : OneSaid w l 0 e w') : ∃ (k n c a b er : Nat) (A : Option Addr), e = .returned (.tuple #[.agg #[.int .u8 (k : Int), .slice A n c, .int .i64 (a : Int), .int .i64 (b : Int)], .int .i64 (er : Int)]) ∧
    Hid (Below w.heap.size w w' ∧ k < 256 ∧ (A = none → c = 0) ∧ n ≤ c ∧ (n = 0 ∨ n = (body l).length) ∧ er = err l ∧ (er = 0 → b = size l ∧ k = (kind l).toNat ∧ n = (body l).length ∧ ∃ g, A = some ⟨g, 0, none⟩ ∧ w.heap.size ≤ g ∧ Row w' g (body l))) := by
  obtain ⟨h1, h2, h3⟩ := h
  by_cases h0 : err l = 0
  · obtain ⟨g, he, hr, hg⟩ := h2 h0
    have hb := body_len l h0
    refine ⟨(kind l).toNat, cnt l, cnt l, 0, size l, 0, some ⟨g, 0, none⟩, by rw [he]; unfold itemV; simp, h3, (kind l).toNat_lt, (fun h => by cases h), Nat.le_refl _, Or.inr hb.symm, h0.symm, fun _ => ⟨rfl, rfl, hb.symm, g, rfl, hg, hr⟩⟩
  · refine ⟨0, 0, 0, 0, 0, err l, none, by rw [h1 h0]; unfold noItem; rfl, h3, by decide, fun _ => rfl, Nat.le_refl _, Or.inl rfl, rfl, fun h => absurd h h0⟩
set_option maxHeartbeats 1000000 in
theorem alone_any (A0 : Option Addr) (cap B : Nat) (l : S) (w : World) (hl : l.length ≤ 900000) (hc : l.length ≤ cap) (hA : A0 = none → cap = 0) (hB : B ≤ w.heap.size) (hr : Rd w B A0 l) :
    Calls Tryz.prog 69 #[.slice A0 l.length cap] w (AloneSaid w l) := by
  have N1 := heap_alloc_new w (.cells #[.int .u8 0, .slice none 0 0, .int .i64 0, .int .i64 0] 75)
  have B1 : Below w.heap.size w (w.alloc (.cells #[.int .u8 0, .slice none 0 0, .int .i64 0, .int .i64 0] 75)) := (Below.refl _ _).alloc (Nat.le_refl _) _
  have c95 : Calls Tryz.prog 95 #[.slice A0 l.length cap, .int .i64 0] (w.alloc (.cells #[.int .u8 0, .slice none 0 0, .int .i64 0, .int .i64 0] 75)) _ := Frm.one_any A0 cap B 0 l _ hl hc hA (Nat.zero_le _) (Nat.le_trans hB B1.size) (hr.below B1 hB)
  rw [List.drop_zero] at c95
  obtain ⟨m, hm⟩ : ∃ m, m = l.length := ⟨_, rfl⟩
  rw [← hm] at c95 ⊢
  have HM := Lib.hid hm
  have HN1 := Lib.hid (And.intro N1 B1)
  clear hr hl hc hA hm N1 B1
  go_enter Tryz.func69, Tryz.ntmps69
  go_upto_region 1 with (fail)
  generalize w.alloc (.cells #[.int .u8 0, .slice none 0 0, .int .i64 0, .int .i64 0] 75) = w1 at *
  go_upto_region 2 with (first
    | (go_at_call 95; (with_reducible refine c95.mono ?_); rintro e w2 HO; obtain ⟨k, n, c, a, b, er, A, rfl, HC⟩ := one0 HO; clear HO c95)
    | go_in)
  have N4 := heap_alloc_new w2 (.cells #[.int .u8 (k : Int), .slice A n c, .int .i64 (a : Int), .int .i64 (b : Int)] 75)
  have N1' := (HC.out.1.block _ (Array.getElem?_eq_some_iff.1 HN1.out.1).1).trans HN1.out.1
  have N1'' := (heap_alloc_old w2 (.cells #[.int .u8 (k : Int), .slice A n c, .int .i64 (a : Int), .int .i64 (b : Int)] 75) (Array.getElem?_eq_some_iff.1 N1').1).trans N1'
  have hne : some w2.heap.size ≠ some w.heap.size := fun h => by
    have h1 := (Array.getElem?_eq_some_iff.1 N1').1
    injection h with h
    omega
  have hne' : w2.heap.size ≠ w.heap.size := fun h => hne (by rw [h])
  have B4 : Below w2.heap.size w2 (w2.alloc (.cells #[.int .u8 (k : Int), .slice A n c, .int .i64 (a : Int), .int .i64 (b : Int)] 75)) := (Below.refl _ _).alloc (Nat.le_refl _) _
  have hB2 := HN1.out.2.trans (HC.out.1.mono HN1.out.2.size)
  have HB4 := Lib.hid (And.intro B4 (hB2.trans (B4.mono hB2.size)))
  generalize w2.alloc (.cells #[.int .u8 (k : Int), .slice A n c, .int .i64 (a : Int), .int .i64 (b : Int)] 75) = w4 at *
  have HD : Hid (w4.drew.heap[w.heap.size]? = some (.cells #[.int .u8 0, .slice none 0 0, .int .i64 0, .int .i64 0] 75) ∧ Below w2.heap.size w2 w4.drew ∧ w2.heap.size ≠ w.heap.size ∧ Below w.heap.size w w4.drew) := ⟨N1'', HB4.out.1.drew, hne', HB4.out.2.drew⟩
  clear N1' N1'' hne hne' B4 hB2
  have fin : ∀ (W : World) (bv : Bool), w4.drew.grownBy W (some w.heap.size) → bv = whole l → AloneSaid w l (.returned (.tuple #[.agg #[.int .u8 (k : Int), .slice A n c, .int .i64 (a : Int), .int .i64 (b : Int)], .bool bv])) W := fun W bv G hbv => by
    subst hbv
    refine ⟨k, n, c, a, b, A, rfl, HD.out.2.2.2.grown G HD.out.2.2.2.size (fun k h => by cases h; exact Nat.le_refl _), HC.out.2.1, HC.out.2.2.1, HC.out.2.2.2.1, HC.out.2.2.2.2.1, fun hw => ?_⟩
    have h0 : err l = 0 := by
      unfold whole at hw
      exact (of_decide_eq_true hw).1
    obtain ⟨_, h2, h3, g, rfl, h5, h6⟩ := HC.out.2.2.2.2.2.2 (by rw [HC.out.2.2.2.2.2.1]; exact h0)
    refine ⟨h2, h3, ?_⟩
    have hgl := h6.lt
    have h7 : Row w4.drew g (body l) := h6.below HD.out.2.1 hgl
    have h8 : Row W g (body l) := (G.block g h7.lt (fun e => by
      injection e with e
      have := (Array.getElem?_eq_some_iff.1 HN1.out.1).1
      omega)).trans h7
    exact h8.rd
  by_cases h0 : er = 0
  · have hw : whole l = decide (b = m) := by
      unfold whole
      have h1 := HC.out.2.2.2.2.2.1
      rw [← h1, h0, ← HM.out, (HC.out.2.2.2.2.2.2 h0).1]
      simp
    have HE0 := Lib.hid (show (er : Int) = 0 by omega)
    have HW := Lib.hid hw
    clear hw h0
    refine wp_region_noPanic ?_
    refine wp_region_held_drew (S := fun x : World => x.heap[w2.heap.size]? = some (.cells #[.int .u8 (k : Int), .slice A n c, .int .i64 (a : Int), .int .i64 (b : Int)] 75)) (by kernel_rfl) N4 (fun hHeld => ?_)
    generalize w4.drew = wd at *
    refine wpAnyH_take (i := 0) (oi := { dst := some 11, op := Op.load 75 (Operand.tmp 4), type := 75, pos := "files.go:179", after := #[], guard := none }) (v := .agg #[.int .u8 (k : Int), .slice A n c, .int .i64 (a : Int), .int .i64 (b : Int)]) rfl (by kernel_rfl) (by kernel_rfl) (by kernel_rfl) (fun _ _ _ h => h) (Or.inl ⟨by rfl, fun w hSw => by obtain ⟨p0, p1, p2, p3, -⟩ := Frm.cells4 hSw; go_simp⟩) (by assumption) ?_
    try simp only [Act.put, List.setIfInBounds_toArray, List.set_cons_zero, List.set_cons_succ]
    refine wpAnyH_take (i := 1) (oi := { dst := some 12, op := Op.move (Operand.tmp 5), type := 27, pos := "files.go:179", after := #[], guard := none }) (v := .int .i64 (er : Int)) rfl (by kernel_rfl) (by kernel_rfl) (by kernel_rfl) (fun _ _ _ h => h) (Or.inl ⟨by rfl, fun w hSw => by go_simp⟩) (by assumption) ?_
    try simp only [Act.put, List.setIfInBounds_toArray, List.set_cons_zero, List.set_cons_succ]
    refine wpAnyH_take (i := 2) (oi := { dst := some 13, op := Op.binOp BinOp.eql 27 (Operand.tmp 12) (Operand.const (Value.int IntKind.i64 0)) 27, type := 4, pos := "files.go:179", after := #[{ on := 1, ground := Ground.data }], guard := none }) (v := .bool true) rfl (by kernel_rfl) (by kernel_rfl) (by kernel_rfl) (fun _ _ _ h => h) (Or.inl ⟨by rfl, fun w hSw => by have hz := HE0.out; go_simp⟩) (by assumption) ?_
    try simp only [Act.put, List.setIfInBounds_toArray, List.set_cons_zero, List.set_cons_succ]
    refine wpAnyH_take (i := 3) (oi := { dst := some 14, op := Op.move (Operand.tmp 13), type := 4, pos := "files.go:179", after := #[{ on := 2, ground := Ground.data }], guard := none }) (v := .bool true) rfl (by kernel_rfl) (by kernel_rfl) (by kernel_rfl) (fun _ _ _ h => h) (Or.inl ⟨by rfl, fun w hSw => by go_simp⟩) (by assumption) ?_
    try simp only [Act.put, List.setIfInBounds_toArray, List.set_cons_zero, List.set_cons_succ]
    refine wpAnyH_take (i := 4) (oi := { dst := some 15, op := Op.fieldAddr 75 (Operand.tmp 4) 3, type := 0, pos := "files.go:179", after := #[{ on := 3, ground := Ground.guard }, { on := 10, ground := Ground.gcOnly Departure.lateStores }], guard := some (3, true) }) (v := .pointer (some ⟨w2.heap.size, 3, none⟩)) rfl (by kernel_rfl) (by kernel_rfl) (by kernel_rfl) (fun _ _ _ h => h) (Or.inl ⟨by rfl, fun w hSw => by go_simp⟩) (by assumption) ?_
    try simp only [Act.put, List.setIfInBounds_toArray, List.set_cons_zero, List.set_cons_succ]
    refine wpAnyH_take (i := 5) (oi := { dst := some 16, op := Op.load 3 (Operand.tmp 15), type := 3, pos := "files.go:179", after := #[{ on := 4, ground := Ground.data }, { on := 3, ground := Ground.guard }, { on := 10, ground := Ground.gcOnly Departure.lateStores }], guard := some (3, true) }) (v := .int .i64 (b : Int)) rfl (by kernel_rfl) (by kernel_rfl) (by kernel_rfl) (fun _ _ _ h => h) (Or.inl ⟨by rfl, fun w hSw => by obtain ⟨p0, p1, p2, p3, -⟩ := Frm.cells4 hSw; go_simp⟩) (by assumption) ?_
    try simp only [Act.put, List.setIfInBounds_toArray, List.set_cons_zero, List.set_cons_succ]
    refine wpAnyH_take (i := 6) (oi := { dst := some 17, op := Op.move (Operand.tmp 0), type := 30, pos := "files.go:179", after := #[{ on := 3, ground := Ground.guard }], guard := some (3, true) }) (v := .slice A0 m cap) rfl (by kernel_rfl) (by kernel_rfl) (by kernel_rfl) (fun _ _ _ h => h) (Or.inl ⟨by rfl, fun w hSw => by go_simp⟩) (by assumption) ?_
    try simp only [Act.put, List.setIfInBounds_toArray, List.set_cons_zero, List.set_cons_succ]
    refine wpAnyH_take (i := 7) (oi := { dst := some 18, op := Op.call { callee := Callee.builtin Builtin.len, args := #[Operand.tmp 17], argTypes := #[30] }, type := 3, pos := "files.go:179", after := #[{ on := 6, ground := Ground.data }, { on := 3, ground := Ground.guard }], guard := some (3, true) }) (v := .int .i64 (m : Int)) rfl (by kernel_rfl) (by kernel_rfl) (by kernel_rfl) (fun _ _ _ h => h) (Or.inl ⟨by rfl, fun w hSw => by go_simp⟩) (by assumption) ?_
    try simp only [Act.put, List.setIfInBounds_toArray, List.set_cons_zero, List.set_cons_succ]
    refine wpAnyH_take (i := 8) (oi := { dst := some 19, op := Op.binOp BinOp.eql 3 (Operand.tmp 16) (Operand.tmp 18) 3, type := 4, pos := "files.go:179", after := #[{ on := 5, ground := Ground.data }, { on := 7, ground := Ground.data }, { on := 3, ground := Ground.guard }, { on := 10, ground := Ground.gcOnly Departure.lateStores }], guard := some (3, true) }) (v := .bool ((b : Int) == (m : Int))) rfl (by kernel_rfl) (by kernel_rfl) (by kernel_rfl) (fun _ _ _ h => h) (Or.inl ⟨by rfl, fun w hSw => by go_simp⟩) (by assumption) ?_
    try simp only [Act.put, List.setIfInBounds_toArray, List.set_cons_zero, List.set_cons_succ]
    refine wpAnyH_take (i := 9) (oi := { dst := some 20, op := Op.pick (Operand.tmp 14) (Operand.tmp 19) (Operand.const (Value.bool false)), type := 4, pos := "files.go:179", after := #[{ on := 3, ground := Ground.data }, { on := 8, ground := Ground.data }, { on := 10, ground := Ground.gcOnly Departure.lateStores }], guard := none }) (v := .bool ((b : Int) == (m : Int))) rfl (by kernel_rfl) (by kernel_rfl) (by kernel_rfl) (fun _ _ _ h => h) (Or.inl ⟨by rfl, fun w hSw => by go_simp⟩) (by assumption) ?_
    try simp only [Act.put, List.setIfInBounds_toArray, List.set_cons_zero, List.set_cons_succ]
    refine wpAnyH_ready (rs := [10]) (by kernel_rfl) (by simp) ?_
    refine AllReadyH.cons (o := { dst := none, op := Op.store 75 (Operand.tmp 2) (Operand.tmp 11), type := 0, pos := "files.go:179", after := #[{ on := 0, ground := Ground.data }, { on := 3, ground := Ground.chain }, { on := 0, ground := Ground.phase }, { on := 1, ground := Ground.textOnly Departure.lateStores }, { on := 2, ground := Ground.textOnly Departure.lateStores }, { on := 3, ground := Ground.textOnly Departure.lateStores }, { on := 4, ground := Ground.textOnly Departure.lateStores }, { on := 5, ground := Ground.textOnly Departure.lateStores }, { on := 6, ground := Ground.textOnly Departure.lateStores }, { on := 7, ground := Ground.textOnly Departure.lateStoresUnsure }, { on := 8, ground := Ground.textOnly Departure.lateStores }, { on := 9, ground := Ground.textOnly Departure.lateStores }], guard := none }) rfl (fun K hK => ?_) AllReadyH.nil
    obtain ⟨t0, t1, t2, t3, tf⟩ := Frm.cells4 HD.out.1
    have P2 := put4 HD.out.1 (.int .u8 (k : Int)) (.slice A n c) (.int .i64 (a : Int)) (.int .i64 (b : Int))
    have G2 := set4_grown wd w.heap.size (.int .u8 (k : Int)) (.slice A n c) (.int .i64 (a : Int)) (.int .i64 (b : Int))
    go_simp
    refine hK.out _ _ ((G2.block _ (Array.getElem?_eq_some_iff.1 hHeld).1 (fun h => HD.out.2.2.1 (by injection h))).trans hHeld) (fun hHeld => ?_)
    clear hK K
    try simp only [Act.put, List.setIfInBounds_toArray, List.set_cons_zero, List.set_cons_succ]
    clear t0 t1 t2 t3 tf
    generalize World.setCell (World.setCell (World.setCell (World.setCell wd _ _) _ _) _ _) _ _ = w5 at *
    refine wpAnyH_take (i := 11) (oi := { dst := some 3, op := Op.assign (Operand.tmp 20), type := 4, pos := "files.go:179", after := #[{ on := 9, ground := Ground.data }, { on := 10, ground := Ground.chain }, { on := 0, ground := Ground.phase }, { on := 1, ground := Ground.phase }, { on := 2, ground := Ground.phase }, { on := 3, ground := Ground.phase }, { on := 4, ground := Ground.phase }, { on := 5, ground := Ground.phase }, { on := 6, ground := Ground.phase }, { on := 7, ground := Ground.phase }, { on := 8, ground := Ground.phase }, { on := 9, ground := Ground.phase }, { on := 10, ground := Ground.phase }], guard := none }) (v := .bool ((b : Int) == (m : Int))) rfl (by kernel_rfl) (by kernel_rfl) (by kernel_rfl) (fun _ _ _ h => h) (Or.inl ⟨by rfl, fun w hSw => by go_simp⟩) (by assumption) ?_
    try simp only [Act.put, List.setIfInBounds_toArray, List.set_cons_zero, List.set_cons_succ]
    refine wpAnyH_done (by kernel_rfl) ?_ _
    try unfold NoPanic
    go_wp2
    (try simp only [Exit.inBlock, Exit.then])
    refine bodyPost_ret (Frm.res26 rfl _ _ w.heap.size 75 _ (0, 0) rfl P2 rfl) rfl ?_
    exact fin w5 _ G2 (by rw [HW.out]; by_cases h : b = m <;> simp [h]; omega)
  · have hw : whole l = false := by
      unfold whole
      rw [HC.out.2.2.2.2.2.1] at h0
      simp [h0]
    have h0' : ¬ (er : Int) = 0 := by omega
    refine wp_region_noPanic ?_
    refine wp_region_held_drew (S := fun x : World => x.heap[w2.heap.size]? = some (.cells #[.int .u8 (k : Int), .slice A n c, .int .i64 (a : Int), .int .i64 (b : Int)] 75)) (by kernel_rfl) N4 (fun hHeld => ?_)
    generalize w4.drew = wd at *
    refine wpAnyH_take (i := 0) (oi := { dst := some 11, op := Op.load 75 (Operand.tmp 4), type := 75, pos := "files.go:179", after := #[], guard := none }) (v := .agg #[.int .u8 (k : Int), .slice A n c, .int .i64 (a : Int), .int .i64 (b : Int)]) rfl (by kernel_rfl) (by kernel_rfl) (by kernel_rfl) (fun _ _ _ h => h) (Or.inl ⟨by rfl, fun w hSw => by obtain ⟨p0, p1, p2, p3, -⟩ := Frm.cells4 hSw; go_simp⟩) (by assumption) ?_
    try simp only [Act.put, List.setIfInBounds_toArray, List.set_cons_zero, List.set_cons_succ]
    refine wpAnyH_take (i := 1) (oi := { dst := some 12, op := Op.move (Operand.tmp 5), type := 27, pos := "files.go:179", after := #[], guard := none }) (v := .int .i64 (er : Int)) rfl (by kernel_rfl) (by kernel_rfl) (by kernel_rfl) (fun _ _ _ h => h) (Or.inl ⟨by rfl, fun w hSw => by go_simp⟩) (by assumption) ?_
    try simp only [Act.put, List.setIfInBounds_toArray, List.set_cons_zero, List.set_cons_succ]
    refine wpAnyH_take (i := 2) (oi := { dst := some 13, op := Op.binOp BinOp.eql 27 (Operand.tmp 12) (Operand.const (Value.int IntKind.i64 0)) 27, type := 4, pos := "files.go:179", after := #[{ on := 1, ground := Ground.data }], guard := none }) (v := .bool false) rfl (by kernel_rfl) (by kernel_rfl) (by kernel_rfl) (fun _ _ _ h => h) (Or.inl ⟨by rfl, fun w hSw => by go_simp⟩) (by assumption) ?_
    try simp only [Act.put, List.setIfInBounds_toArray, List.set_cons_zero, List.set_cons_succ]
    refine wpAnyH_take (i := 3) (oi := { dst := some 14, op := Op.move (Operand.tmp 13), type := 4, pos := "files.go:179", after := #[{ on := 2, ground := Ground.data }], guard := none }) (v := .bool false) rfl (by kernel_rfl) (by kernel_rfl) (by kernel_rfl) (fun _ _ _ h => h) (Or.inl ⟨by rfl, fun w hSw => by go_simp⟩) (by assumption) ?_
    try simp only [Act.put, List.setIfInBounds_toArray, List.set_cons_zero, List.set_cons_succ]
    refine wpAnyH_take (i := 4) (oi := { dst := some 15, op := Op.fieldAddr 75 (Operand.tmp 4) 3, type := 0, pos := "files.go:179", after := #[{ on := 3, ground := Ground.guard }, { on := 10, ground := Ground.gcOnly Departure.lateStores }], guard := some (3, true) }) (v := undef) rfl (by kernel_rfl) (by kernel_rfl) (by kernel_rfl) (fun _ _ _ h => h) (Or.inr ⟨by rfl, rfl⟩) (by assumption) ?_
    try simp only [Act.put, List.setIfInBounds_toArray, List.set_cons_zero, List.set_cons_succ]
    refine wpAnyH_take (i := 5) (oi := { dst := some 16, op := Op.load 3 (Operand.tmp 15), type := 3, pos := "files.go:179", after := #[{ on := 4, ground := Ground.data }, { on := 3, ground := Ground.guard }, { on := 10, ground := Ground.gcOnly Departure.lateStores }], guard := some (3, true) }) (v := undef) rfl (by kernel_rfl) (by kernel_rfl) (by kernel_rfl) (fun _ _ _ h => h) (Or.inr ⟨by rfl, rfl⟩) (by assumption) ?_
    try simp only [Act.put, List.setIfInBounds_toArray, List.set_cons_zero, List.set_cons_succ]
    refine wpAnyH_take (i := 6) (oi := { dst := some 17, op := Op.move (Operand.tmp 0), type := 30, pos := "files.go:179", after := #[{ on := 3, ground := Ground.guard }], guard := some (3, true) }) (v := undef) rfl (by kernel_rfl) (by kernel_rfl) (by kernel_rfl) (fun _ _ _ h => h) (Or.inr ⟨by rfl, rfl⟩) (by assumption) ?_
    try simp only [Act.put, List.setIfInBounds_toArray, List.set_cons_zero, List.set_cons_succ]
    refine wpAnyH_take (i := 7) (oi := { dst := some 18, op := Op.call { callee := Callee.builtin Builtin.len, args := #[Operand.tmp 17], argTypes := #[30] }, type := 3, pos := "files.go:179", after := #[{ on := 6, ground := Ground.data }, { on := 3, ground := Ground.guard }], guard := some (3, true) }) (v := undef) rfl (by kernel_rfl) (by kernel_rfl) (by kernel_rfl) (fun _ _ _ h => h) (Or.inr ⟨by rfl, rfl⟩) (by assumption) ?_
    try simp only [Act.put, List.setIfInBounds_toArray, List.set_cons_zero, List.set_cons_succ]
    refine wpAnyH_take (i := 8) (oi := { dst := some 19, op := Op.binOp BinOp.eql 3 (Operand.tmp 16) (Operand.tmp 18) 3, type := 4, pos := "files.go:179", after := #[{ on := 5, ground := Ground.data }, { on := 7, ground := Ground.data }, { on := 3, ground := Ground.guard }, { on := 10, ground := Ground.gcOnly Departure.lateStores }], guard := some (3, true) }) (v := undef) rfl (by kernel_rfl) (by kernel_rfl) (by kernel_rfl) (fun _ _ _ h => h) (Or.inr ⟨by rfl, rfl⟩) (by assumption) ?_
    try simp only [Act.put, List.setIfInBounds_toArray, List.set_cons_zero, List.set_cons_succ]
    refine wpAnyH_take (i := 9) (oi := { dst := some 20, op := Op.pick (Operand.tmp 14) (Operand.tmp 19) (Operand.const (Value.bool false)), type := 4, pos := "files.go:179", after := #[{ on := 3, ground := Ground.data }, { on := 8, ground := Ground.data }, { on := 10, ground := Ground.gcOnly Departure.lateStores }], guard := none }) (v := .bool false) rfl (by kernel_rfl) (by kernel_rfl) (by kernel_rfl) (fun _ _ _ h => h) (Or.inl ⟨by rfl, fun w hSw => by go_simp⟩) (by assumption) ?_
    try simp only [Act.put, List.setIfInBounds_toArray, List.set_cons_zero, List.set_cons_succ]
    refine wpAnyH_ready (rs := [10]) (by kernel_rfl) (by simp) ?_
    refine AllReadyH.cons (o := { dst := none, op := Op.store 75 (Operand.tmp 2) (Operand.tmp 11), type := 0, pos := "files.go:179", after := #[{ on := 0, ground := Ground.data }, { on := 3, ground := Ground.chain }, { on := 0, ground := Ground.phase }, { on := 1, ground := Ground.textOnly Departure.lateStores }, { on := 2, ground := Ground.textOnly Departure.lateStores }, { on := 3, ground := Ground.textOnly Departure.lateStores }, { on := 4, ground := Ground.textOnly Departure.lateStores }, { on := 5, ground := Ground.textOnly Departure.lateStores }, { on := 6, ground := Ground.textOnly Departure.lateStores }, { on := 7, ground := Ground.textOnly Departure.lateStoresUnsure }, { on := 8, ground := Ground.textOnly Departure.lateStores }, { on := 9, ground := Ground.textOnly Departure.lateStores }], guard := none }) rfl (fun K hK => ?_) AllReadyH.nil
    obtain ⟨t0, t1, t2, t3, tf⟩ := Frm.cells4 HD.out.1
    have P2 := put4 HD.out.1 (.int .u8 (k : Int)) (.slice A n c) (.int .i64 (a : Int)) (.int .i64 (b : Int))
    have G2 := set4_grown wd w.heap.size (.int .u8 (k : Int)) (.slice A n c) (.int .i64 (a : Int)) (.int .i64 (b : Int))
    go_simp
    refine hK.out _ _ ((G2.block _ (Array.getElem?_eq_some_iff.1 hHeld).1 (fun h => HD.out.2.2.1 (by injection h))).trans hHeld) (fun hHeld => ?_)
    clear hK K
    try simp only [Act.put, List.setIfInBounds_toArray, List.set_cons_zero, List.set_cons_succ]
    clear t0 t1 t2 t3 tf
    generalize World.setCell (World.setCell (World.setCell (World.setCell wd _ _) _ _) _ _) _ _ = w5 at *
    refine wpAnyH_take (i := 11) (oi := { dst := some 3, op := Op.assign (Operand.tmp 20), type := 4, pos := "files.go:179", after := #[{ on := 9, ground := Ground.data }, { on := 10, ground := Ground.chain }, { on := 0, ground := Ground.phase }, { on := 1, ground := Ground.phase }, { on := 2, ground := Ground.phase }, { on := 3, ground := Ground.phase }, { on := 4, ground := Ground.phase }, { on := 5, ground := Ground.phase }, { on := 6, ground := Ground.phase }, { on := 7, ground := Ground.phase }, { on := 8, ground := Ground.phase }, { on := 9, ground := Ground.phase }, { on := 10, ground := Ground.phase }], guard := none }) (v := .bool false) rfl (by kernel_rfl) (by kernel_rfl) (by kernel_rfl) (fun _ _ _ h => h) (Or.inl ⟨by rfl, fun w hSw => by go_simp⟩) (by assumption) ?_
    try simp only [Act.put, List.setIfInBounds_toArray, List.set_cons_zero, List.set_cons_succ]
    refine wpAnyH_done (by kernel_rfl) ?_ _
    try unfold NoPanic
    go_wp2
    (try simp only [Exit.inBlock, Exit.then])
    refine bodyPost_ret (Frm.res26 rfl _ _ w.heap.size 75 _ (0, 0) rfl P2 rfl) rfl ?_
    exact fin w5 _ G2 hw.symm
end Go.Proofs.YtdbhgkbmbbjpdaaGreatDoor.Chr
