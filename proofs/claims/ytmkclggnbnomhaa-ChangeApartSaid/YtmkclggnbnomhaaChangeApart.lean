/-
  'For every input the Go function milestonelaw07.ChangeApart returns true, and each argument reads behind the call as it read before.'
  Conditions: none but the row's own (linux/amd64, sizes of what is read within the address space).
-/
import Derived.Test.YtmkclggnbnomhaaRows
import Derived.WalkKit
import Derived.ProofKit
import Derived.OpenShut
import Derived.ShutString
import Derived.ChangeOld
import Derived.Below
import Derived.Lib.SmallJoins
import Derived.Lib.Hide
import Derived.Test.YtmkclggnbnomhaaCa
import Derived.Test.YtmkclggnbnomhaaHo
namespace Go.Proofs.Ytmkclggnbnomhaa.changeApart
open Chg
open Coin
open Go.ChangeShapes Go.WideShapes Go.ChangeAt Go.RowKit
open Go.ChangeMaps (open_string shut_string)
set_option linter.unusedVariables false

theorem own : ownKnob Try.prog.godebug = none := by kernel_rfl
theorem laidOut : laidOutB Try.prog = true := by kernel_rfl


/-- A history in memory, the boxes as they were. -/
def HistAt (w wx : World) (v : Value) (ds : List HAct) (ca : List C) : Prop := ChOwn wx (w.heap.size + 1 + 1) v ca ∧ ca.length = ds.length ∧ HistOK ds ca
theorem HistAt.step {w wx w' : World} {v : Value} {ds : List HAct} {ca : List C} (h : HistAt w wx v ds ca) (B : Below wx.heap.size wx w') : HistAt w w' v ds ca := ⟨h.1.kept B, h.2⟩
theorem ch_low {w : World} {B B1 : Nat} {v : Value} {cs : List C} (h : ChOwn w B v cs) (hb : B1 ≤ B) : ChOwn w B1 v cs :=
  ⟨h.1, h.2.imp id fun ⟨g, cap, cur, h1, h2, h3⟩ => ⟨g, cap, cur, h1, Nat.le_trans hb h2, h3⟩⟩

theorem tsum_app (l r : List HAct) (k : Nat) (h : k ≤ l.length) : tsum (l ++ r) k = tsum l k := by
  unfold tsum; rw [List.take_append_of_le_length h]
theorem tsum_mono (l : List HAct) (k : Nat) : tsum l k ≤ tsum l (k + 1) := by
  by_cases hk : k < l.length
  · rw [tsum_succ l k hk]; omega
  · unfold tsum; rw [List.take_of_length_le (by omega), List.take_of_length_le (by omega)]; exact Nat.le_refl _
theorem zero_after {l : List HAct} {c : List C} (h : HistOK l c) (h0 : 0 < c.length) : C.zero.After c[0] := by
  have := h 0 h0
  exact ⟨by rw [this.1]; rfl, Nat.zero_le _⟩
theorem last_after {z : List HAct} {x y : HAct} {a b : List C} (ha : HistOK (z ++ [x]) a) (hb : HistOK (z ++ [y]) b) (k : Nat) (hk : k + 1 = z.length) (h1 : a.length = z.length + 1) (h2 : b.length = z.length + 1) :
    (a[k]'(by omega)).After (b[z.length]'(by omega)) := by
  have e1 := ha k (by omega)
  have e2 := hb z.length (by omega)
  refine ⟨by rw [e1.1, e2.1]; omega, ?_⟩
  rw [e1.2.1, e2.2.1, tsum_app _ _ _ (by omega), ← tsum_app z [y] (k + 1) (by omega), hk]
  exact tsum_mono _ _
/-- The change ahead in its box. -/
def LastAt (wx : World) (g : Nat) (ea eb : C) : Prop := ∃ last : C, last.Ok ∧ last.After ea ∧ last.After eb ∧ wx.heap[g]? = some (.cells last.cells 34 (0, 0))

theorem put8 {w : World} {b : Nat} {t : TypeId} {x0 x1 x2 x3 x4 x5 x6 x7 : Value} (h : w.heap[b]? = some (.cells #[x0, x1, x2, x3, x4, x5, x6, x7] t (0, 0))) (y0 y1 y2 y3 y4 y5 y6 y7 : Value) :
    ((((((((w.setCell ⟨b, 0, none⟩ y0).setCell ⟨b, 1, none⟩ y1).setCell ⟨b, 2, none⟩ y2).setCell ⟨b, 3, none⟩ y3).setCell ⟨b, 4, none⟩ y4).setCell ⟨b, 5, none⟩ y5).setCell ⟨b, 6, none⟩ y6).setCell ⟨b, 7, none⟩ y7).heap[b]? = some (.cells #[y0, y1, y2, y3, y4, y5, y6, y7] t (0, 0)) := by
  have e0 := heap_setCell_same _ b 0 _ t y0 h
  have e1 := heap_setCell_same _ b 1 _ t y1 e0
  have e2 := heap_setCell_same _ b 2 _ t y2 e1
  have e3 := heap_setCell_same _ b 3 _ t y3 e2
  have e4 := heap_setCell_same _ b 4 _ t y4 e3
  have e5 := heap_setCell_same _ b 5 _ t y5 e4
  have e6 := heap_setCell_same _ b 6 _ t y6 e5
  have e7 := heap_setCell_same _ b 7 _ t y7 e6
  rw [e7]
  simp
theorem set8_below {B : Nat} {a w : World} (h : Below B a w) {b : Nat} (hb : B ≤ b) (y0 y1 y2 y3 y4 y5 y6 y7 : Value) :
    Below B a ((((((((w.setCell ⟨b, 0, none⟩ y0).setCell ⟨b, 1, none⟩ y1).setCell ⟨b, 2, none⟩ y2).setCell ⟨b, 3, none⟩ y3).setCell ⟨b, 4, none⟩ y4).setCell ⟨b, 5, none⟩ y5).setCell ⟨b, 6, none⟩ y6).setCell ⟨b, 7, none⟩ y7) :=
  (((((((h.setCell (p := ⟨b, 0, none⟩) hb _).setCell (p := ⟨b, 1, none⟩) hb _).setCell (p := ⟨b, 2, none⟩) hb _).setCell (p := ⟨b, 3, none⟩) hb _).setCell (p := ⟨b, 4, none⟩) hb _).setCell (p := ⟨b, 5, none⟩) hb _).setCell (p := ⟨b, 6, none⟩) hb _).setCell (p := ⟨b, 7, none⟩) hb _
set_option maxRecDepth 8000 in
set_option maxHeartbeats 8000000 in
theorem walk (a0 : Option Addr) (len0 cap0 : Nat) (z0 : List ActD) (x1 : HAct) (x2 : HAct) (w : World) (w0 : IsActs w a0 len0 cap0 z0) (w1 : x1.Ok) (w2 : x2.Ok) :
    Calls Try.prog 5 #[.slice a0 len0 cap0, .agg #[.int .u8 (x1.P : Int), .int .u8 (x1.Via : Int), .int .u8 (x1.Metric : Int), .int .u8 (x1.Seq : Int), .int .u8 (x1.Later : Int)], .agg #[.int .u8 (x2.P : Int), .int .u8 (x2.Via : Int), .int .u8 (x2.Metric : Int), .int .u8 (x2.Seq : Int), .int .u8 (x2.Later : Int)]] w fun e w' => e = .returned (.bool true) ∧ Below w.heap.size w w' := by
  obtain ⟨hl1, hl2, hl3, HA, hnil⟩ := w0
  have Wx1 := w1
  have Wx2 := w2
  clear w1 w2
  unfold maxLen at hl3
  by_cases h2 : 20 < len0
  · have h2' : (20 : Int) < len0 := by omega
    clear h2 hl1 HA
    go_enter Try.func5, Try.ntmps5
    go_wp2_with fail
    refine (awake_any _).mono ?_
    rintro e w1 ⟨rfl, h1⟩
    go_wp2_with fail
    refine (awake_any _).mono ?_
    rintro e w2 ⟨rfl, h2⟩
    go_wp2_with fail
    go_ret
    exact ⟨rfl, (Bx5.new w x1 x2).be.trans ((h1.trans (h2.mono h1.size)).mono (by simp; omega))⟩
  have h2' : ¬ (20 : Int) < len0 := by omega
  have hl20 : len0 ≤ 20 := by omega
  have HBN := Bx5.new w x1 x2
  have HL := Lib.hid hl1
  clear h2 hl1
  go_enter Try.func5, Try.ntmps5
  go_upto_region 3 with (first
    | (go_at_call 7; refine (awake_any _).mono ?_; rintro e wz ⟨rfl, B0⟩; have HB := HBN.step B0; clear B0 HBN))
  go_cut [7] (fun v7 wx => Bx5 w wx x1 x2 ∧ ∃ ca, Hid (HistAt w wx v7 (z0 ++ [x1]) ca))
  case first =>
    refine wp_region_noPanic ?_
    refine wp_region_held_drew (S := fun W : World => Bx5 w W x1 x2) (by kernel_rfl) (HB.step (Below.refl _ _).drew) (fun hHeld => ?_)
    have hB1 := (Below.refl wz.heap.size wz).drew
    clear HB
    generalize wz.drew = wd at *
    have hlt0 := hHeld.lt
    refine wpAnyH_take (i := 0) (oi := { dst := some 19, op := Op.move (Operand.tmp 0), type := 22, pos := "law.go:90", after := #[], guard := none }) (v := .slice a0 len0 cap0) rfl (by kernel_rfl) (by kernel_rfl) (by kernel_rfl) (fun _ _ _ h => h) (Or.inl ⟨by rfl, fun w hSw => by go_simp⟩) (by assumption) ?_
    try simp only [Act.put, List.setIfInBounds_toArray, List.set_cons_zero, List.set_cons_succ]
    refine wpAnyH_take (i := 2) (oi := { dst := some 21, op := Op.load 44 (Operand.tmp 4), type := 44, pos := "law.go:90", after := #[], guard := none }) (v := .agg #[.int .u8 (x1.P : Int), .int .u8 (x1.Via : Int), .int .u8 (x1.Metric : Int), .int .u8 (x1.Seq : Int), .int .u8 (x1.Later : Int)]) rfl (by kernel_rfl) (by kernel_rfl) (by kernel_rfl) (fun _ _ _ h => h) (Or.inl ⟨by rfl, fun w hSw => by obtain ⟨y0, y1, y2, y3, y4⟩ := hcells hSw.r0; go_simp⟩) (by assumption) ?_
    try simp only [Act.put, List.setIfInBounds_toArray, List.set_cons_zero, List.set_cons_succ]
    refine wpAnyH_ready (rs := [1, 3]) (by kernel_rfl) (by simp) ?_
    refine (AllReadyH.cons (o := { dst := some 20, op := Op.call { callee := Callee.builtin Builtin.append, args := #[Operand.const (Value.slice none 0 0), Operand.tmp 19], argTypes := #[22, 22] }, type := 22, pos := "law.go:90", after := #[{ on := 0, ground := Ground.data }], guard := none }) rfl (fun K hK => ?_) (AllReadyH.cons (o := { dst := some 22, op := Op.buildSlice 22 1 #[(0, Operand.tmp 21)], type := 22, pos := "law.go:90", after := #[{ on := 2, ground := Ground.data }], guard := none }) rfl (fun K hK => ?_) AllReadyH.nil))
    · refine step_app5 rfl (.const (.slice none 0 0)) (.tmp 19) rfl wd.heap.size (.slice none 0 0) [] z0 a0 len0 cap0 rfl rfl (HOwn.nil _ _) HL.out hnil ((HA.below hHeld.be).news) HA.none (by have := HL.out; simp; omega) (by simp) ?_
      intro v5 w5 O5 G5
      have G5' : Below wd.heap.size wd w5 := ⟨G5.os, G5.tape, G5.output, G5.size, fun k hk => G5.block k hk (by intro h; cases h)⟩
      refine hK.out _ _ (hHeld.step G5') (fun hHeld => ?_)
      clear hK K
      try simp only [Act.put, List.setIfInBounds_toArray, List.set_cons_zero, List.set_cons_succ]
      refine wpAnyH_ready (rs := [3]) (by kernel_rfl) (by simp) ?_
      refine AllReadyH.cons (o := { dst := some 22, op := Op.buildSlice 22 1 #[(0, Operand.tmp 21)], type := 22, pos := "law.go:90", after := #[{ on := 2, ground := Ground.data }], guard := none }) rfl (fun K hK => ?_) AllReadyH.nil
      go_simp
      refine hK.out _ _ (hHeld.step ((Below.refl _ _).alloc (Nat.le_refl _) _)) (fun hHeld => ?_)
      clear hK K
      try simp only [Act.put, List.setIfInBounds_toArray, List.set_cons_zero, List.set_cons_succ]
      have HX : (w5.alloc (.cells #[.int .u8 (x1.P : Int), .int .u8 (x1.Via : Int), .int .u8 (x1.Metric : Int), .int .u8 (x1.Seq : Int), .int .u8 (x1.Later : Int)] 44)).heap[w5.heap.size]? = some (.cells x1.cl.toArray 44 (0, 0)) := heap_alloc_new w5 _
      have O6 : HOwn (w5.alloc (.cells #[.int .u8 (x1.P : Int), .int .u8 (x1.Via : Int), .int .u8 (x1.Metric : Int), .int .u8 (x1.Seq : Int), .int .u8 (x1.Later : Int)] 44)) wd.heap.size v5 z0 := O5.kept ((Below.refl _ _).alloc (Nat.le_refl _) _)
      have hC3 : Below wd.heap.size wd (w5.alloc (.cells #[.int .u8 (x1.P : Int), .int .u8 (x1.Via : Int), .int .u8 (x1.Metric : Int), .int .u8 (x1.Seq : Int), .int .u8 (x1.Later : Int)] 44)) := G5'.alloc G5'.size _
      refine wpAnyH_ready (rs := [4]) (by kernel_rfl) (by simp) ?_
      refine AllReadyH.cons (o := { dst := some 23, op := Op.call { callee := Callee.builtin Builtin.append, args := #[Operand.tmp 20, Operand.tmp 22], argTypes := #[22, 22] }, type := 22, pos := "law.go:90", after := #[{ on := 1, ground := Ground.data }, { on := 3, ground := Ground.data }, { on := 1, ground := Ground.chain }], guard := none }) rfl (fun K hK => ?_) AllReadyH.nil
      refine step_app5 rfl (.tmp 20) (.tmp 22) rfl wd.heap.size v5 z0 [x1] (some ⟨w5.heap.size, 0, none⟩) 1 1 rfl rfl O6 rfl (by intro h; cases h) (one_cells HX) (by intro h; cases h) (by have := HL.out; simp; omega) hC3.size ?_
      intro v6 w6 O7 G6
      have hr6 : ∀ k, v5.ownBlock = some k → w.heap.size + 1 < k := fun k hk => by have := (World.ownsRow.lt O6 k hk).1; omega
      have hC4 : Below wd.heap.size wd w6 := hC3.grown G6 hC3.size (fun k hk => (World.ownsRow.lt O6 k hk).1)
      clear O6 HX hC3
      refine hK.out _ _ (hHeld.grown G6 hr6) (fun hHeld => ?_)
      clear hK K
      try simp only [Act.put, List.setIfInBounds_toArray, List.set_cons_zero, List.set_cons_succ]
      obtain ⟨A6, c6, hv6, hs6⟩ := O7.form (by intro d hd; rcases List.mem_append.1 hd with h | h; exact HA.ok d h; rw [List.mem_singleton.1 h]; exact Wx1)
      obtain ⟨n1, hn1⟩ : ∃ n, n = (z0 ++ [x1]).length := ⟨_, rfl⟩
      rw [← hn1] at hv6
      subst hv6
      have HN1 := Lib.hid hn1
      clear hn1
      refine wpAnyH_ready (rs := [5]) (by kernel_rfl) (by simp) ?_
      refine AllReadyH.cons (o := { dst := some 24, op := Op.call { callee := Callee.value (Operand.func 8), args := #[Operand.tmp 23], argTypes := #[22] }, type := 24, pos := "law.go:90", after := #[{ on := 4, ground := Ground.data }, { on := 4, ground := Ground.chain }], guard := none }) rfl (fun K hK => ?_) AllReadyH.nil
      have c8 := history_any w6 A6 n1 c6 (z0 ++ [x1]) HN1.out (by have := HL.out; rw [HN1.out]; simp; omega) hs6
      go_simp
      with_reducible refine c8.mono ?_
      rintro e w7 ⟨v7, ca, rfl, OA, hAl, hAo, B7⟩
      refine hK.out _ _ (hHeld.step B7) (fun hHeld => ?_)
      clear hK K
      try simp only [Act.put, List.setIfInBounds_toArray, List.set_cons_zero, List.set_cons_succ]
      refine wpAnyH_take (i := 6) (oi := { dst := some 7, op := Op.assign (Operand.tmp 24), type := 24, pos := "law.go:90", after := #[{ on := 5, ground := Ground.data }, { on := 5, ground := Ground.chain }, { on := 0, ground := Ground.phase }, { on := 1, ground := Ground.phase }, { on := 2, ground := Ground.phase }, { on := 3, ground := Ground.phase }, { on := 4, ground := Ground.phase }, { on := 5, ground := Ground.phase }], guard := none }) (v := v7) rfl (by kernel_rfl) (by kernel_rfl) (by kernel_rfl) (fun _ _ _ h => h) (Or.inl ⟨by rfl, fun w hSw => by go_simp⟩) (by assumption) ?_
      try simp only [Act.put, List.setIfInBounds_toArray, List.set_cons_zero, List.set_cons_succ]
      refine wpAnyH_done (by kernel_rfl) ?_ _
      try unfold NoPanic
      have hC5 := hC4.trans (B7.mono hC4.size)
      have HR := Lib.hid (And.intro (ch_low OA (B1 := w.heap.size + 1 + 1) (by have h8 := hC4.size; omega)) (And.intro (hAl.trans HN1.out) hAo))
      clear OA hAl hAo
      go_wp2
      go_meet
      case rel => exact ⟨hHeld, _, HR.out⟩
    · go_simp
      refine hK.out _ _ (hHeld.step ((Below.refl _ _).alloc (Nat.le_refl _) _)) (fun hHeld => ?_)
      clear hK K
      try simp only [Act.put, List.setIfInBounds_toArray, List.set_cons_zero, List.set_cons_succ]
      refine wpAnyH_ready (rs := [1]) (by kernel_rfl) (by simp) ?_
      refine AllReadyH.cons (o := { dst := some 20, op := Op.call { callee := Callee.builtin Builtin.append, args := #[Operand.const (Value.slice none 0 0), Operand.tmp 19], argTypes := #[22, 22] }, type := 22, pos := "law.go:90", after := #[{ on := 0, ground := Ground.data }], guard := none }) rfl (fun K hK => ?_) AllReadyH.nil
      refine step_app5 rfl (.const (.slice none 0 0)) (.tmp 19) rfl wd.heap.size (.slice none 0 0) [] z0 a0 len0 cap0 rfl rfl (HOwn.nil _ _) HL.out hnil ((HA.below hHeld.be).news) HA.none (by have := HL.out; simp; omega) (by simp) ?_
      intro v5 w5 O5 G5
      have G5' : Below (wd.alloc (.cells #[.int .u8 (x1.P : Int), .int .u8 (x1.Via : Int), .int .u8 (x1.Metric : Int), .int .u8 (x1.Seq : Int), .int .u8 (x1.Later : Int)] 44)).heap.size (wd.alloc (.cells #[.int .u8 (x1.P : Int), .int .u8 (x1.Via : Int), .int .u8 (x1.Metric : Int), .int .u8 (x1.Seq : Int), .int .u8 (x1.Later : Int)] 44)) w5 := ⟨G5.os, G5.tape, G5.output, G5.size, fun k hk => G5.block k hk (by intro h; cases h)⟩
      refine hK.out _ _ (hHeld.step G5') (fun hHeld => ?_)
      clear hK K
      try simp only [Act.put, List.setIfInBounds_toArray, List.set_cons_zero, List.set_cons_succ]
      have HX : (w5).heap[wd.heap.size]? = some (.cells x1.cl.toArray 44 (0, 0)) := (G5'.block _ (by simp)).trans (heap_alloc_new wd _)
      have O6 : HOwn (w5) wd.heap.size v5 z0 := O5
      have hC3 : Below wd.heap.size wd (w5) := ((Below.refl _ _).alloc (Nat.le_refl _) _).trans (G5'.mono (by simp))
      refine wpAnyH_ready (rs := [4]) (by kernel_rfl) (by simp) ?_
      refine AllReadyH.cons (o := { dst := some 23, op := Op.call { callee := Callee.builtin Builtin.append, args := #[Operand.tmp 20, Operand.tmp 22], argTypes := #[22, 22] }, type := 22, pos := "law.go:90", after := #[{ on := 1, ground := Ground.data }, { on := 3, ground := Ground.data }, { on := 1, ground := Ground.chain }], guard := none }) rfl (fun K hK => ?_) AllReadyH.nil
      refine step_app5 rfl (.tmp 20) (.tmp 22) rfl wd.heap.size v5 z0 [x1] (some ⟨wd.heap.size, 0, none⟩) 1 1 rfl rfl O6 rfl (by intro h; cases h) (one_cells HX) (by intro h; cases h) (by have := HL.out; simp; omega) hC3.size ?_
      intro v6 w6 O7 G6
      have hr6 : ∀ k, v5.ownBlock = some k → w.heap.size + 1 < k := fun k hk => by have := (World.ownsRow.lt O6 k hk).1; omega
      have hC4 : Below wd.heap.size wd w6 := hC3.grown G6 hC3.size (fun k hk => (World.ownsRow.lt O6 k hk).1)
      clear O6 HX hC3
      refine hK.out _ _ (hHeld.grown G6 hr6) (fun hHeld => ?_)
      clear hK K
      try simp only [Act.put, List.setIfInBounds_toArray, List.set_cons_zero, List.set_cons_succ]
      obtain ⟨A6, c6, hv6, hs6⟩ := O7.form (by intro d hd; rcases List.mem_append.1 hd with h | h; exact HA.ok d h; rw [List.mem_singleton.1 h]; exact Wx1)
      obtain ⟨n1, hn1⟩ : ∃ n, n = (z0 ++ [x1]).length := ⟨_, rfl⟩
      rw [← hn1] at hv6
      subst hv6
      have HN1 := Lib.hid hn1
      clear hn1
      refine wpAnyH_ready (rs := [5]) (by kernel_rfl) (by simp) ?_
      refine AllReadyH.cons (o := { dst := some 24, op := Op.call { callee := Callee.value (Operand.func 8), args := #[Operand.tmp 23], argTypes := #[22] }, type := 24, pos := "law.go:90", after := #[{ on := 4, ground := Ground.data }, { on := 4, ground := Ground.chain }], guard := none }) rfl (fun K hK => ?_) AllReadyH.nil
      have c8 := history_any w6 A6 n1 c6 (z0 ++ [x1]) HN1.out (by have := HL.out; rw [HN1.out]; simp; omega) hs6
      go_simp
      with_reducible refine c8.mono ?_
      rintro e w7 ⟨v7, ca, rfl, OA, hAl, hAo, B7⟩
      refine hK.out _ _ (hHeld.step B7) (fun hHeld => ?_)
      clear hK K
      try simp only [Act.put, List.setIfInBounds_toArray, List.set_cons_zero, List.set_cons_succ]
      refine wpAnyH_take (i := 6) (oi := { dst := some 7, op := Op.assign (Operand.tmp 24), type := 24, pos := "law.go:90", after := #[{ on := 5, ground := Ground.data }, { on := 5, ground := Ground.chain }, { on := 0, ground := Ground.phase }, { on := 1, ground := Ground.phase }, { on := 2, ground := Ground.phase }, { on := 3, ground := Ground.phase }, { on := 4, ground := Ground.phase }, { on := 5, ground := Ground.phase }], guard := none }) (v := v7) rfl (by kernel_rfl) (by kernel_rfl) (by kernel_rfl) (fun _ _ _ h => h) (Or.inl ⟨by rfl, fun w hSw => by go_simp⟩) (by assumption) ?_
      try simp only [Act.put, List.setIfInBounds_toArray, List.set_cons_zero, List.set_cons_succ]
      refine wpAnyH_done (by kernel_rfl) ?_ _
      try unfold NoPanic
      have hC5 := hC4.trans (B7.mono hC4.size)
      have HR := Lib.hid (And.intro (ch_low OA (B1 := w.heap.size + 1 + 1) (by have h8 := hC4.size; omega)) (And.intro (hAl.trans HN1.out) hAo))
      clear OA hAl hAo
      go_wp2
      go_meet
      case rel => exact ⟨hHeld, _, HR.out⟩
  case rest =>
    obtain ⟨HB, ca, HR1⟩ := hcut
    generalize wc = wz at *
    go_upto_region 4 with (fail)
    go_cut [8] (fun v8 wx => Bx5 w wx x1 x2 ∧ Hid (HistAt w wx u7 (z0 ++ [x1]) ca) ∧ ∃ cb, Hid (HistAt w wx v8 (z0 ++ [x2]) cb))
    case first =>
      refine wp_region_noPanic ?_
      refine wp_region_held_drew (S := fun W : World => Bx5 w W x1 x2) (by kernel_rfl) (HB.step (Below.refl _ _).drew) (fun hHeld => ?_)
      have hB1 := (Below.refl wz.heap.size wz).drew
      clear HB
      generalize wz.drew = wd at *
      have hlt0 := hHeld.lt
      refine wpAnyH_take (i := 0) (oi := { dst := some 25, op := Op.move (Operand.tmp 0), type := 22, pos := "law.go:91", after := #[], guard := none }) (v := .slice a0 len0 cap0) rfl (by kernel_rfl) (by kernel_rfl) (by kernel_rfl) (fun _ _ _ h => h) (Or.inl ⟨by rfl, fun w hSw => by go_simp⟩) (by assumption) ?_
      try simp only [Act.put, List.setIfInBounds_toArray, List.set_cons_zero, List.set_cons_succ]
      refine wpAnyH_take (i := 2) (oi := { dst := some 27, op := Op.load 44 (Operand.tmp 5), type := 44, pos := "law.go:91", after := #[], guard := none }) (v := .agg #[.int .u8 (x2.P : Int), .int .u8 (x2.Via : Int), .int .u8 (x2.Metric : Int), .int .u8 (x2.Seq : Int), .int .u8 (x2.Later : Int)]) rfl (by kernel_rfl) (by kernel_rfl) (by kernel_rfl) (fun _ _ _ h => h) (Or.inl ⟨by rfl, fun w hSw => by obtain ⟨y0, y1, y2, y3, y4⟩ := hcells hSw.r1; go_simp⟩) (by assumption) ?_
      try simp only [Act.put, List.setIfInBounds_toArray, List.set_cons_zero, List.set_cons_succ]
      refine wpAnyH_ready (rs := [1, 3]) (by kernel_rfl) (by simp) ?_
      refine (AllReadyH.cons (o := { dst := some 26, op := Op.call { callee := Callee.builtin Builtin.append, args := #[Operand.const (Value.slice none 0 0), Operand.tmp 25], argTypes := #[22, 22] }, type := 22, pos := "law.go:91", after := #[{ on := 0, ground := Ground.data }], guard := none }) rfl (fun K hK => ?_) (AllReadyH.cons (o := { dst := some 28, op := Op.buildSlice 22 1 #[(0, Operand.tmp 27)], type := 22, pos := "law.go:91", after := #[{ on := 2, ground := Ground.data }], guard := none }) rfl (fun K hK => ?_) AllReadyH.nil))
      · refine step_app5 rfl (.const (.slice none 0 0)) (.tmp 25) rfl wd.heap.size (.slice none 0 0) [] z0 a0 len0 cap0 rfl rfl (HOwn.nil _ _) HL.out hnil ((HA.below hHeld.be).news) HA.none (by have := HL.out; simp; omega) (by simp) ?_
        intro v5 w5 O5 G5
        have G5' : Below wd.heap.size wd w5 := ⟨G5.os, G5.tape, G5.output, G5.size, fun k hk => G5.block k hk (by intro h; cases h)⟩
        refine hK.out _ _ (hHeld.step G5') (fun hHeld => ?_)
        clear hK K
        try simp only [Act.put, List.setIfInBounds_toArray, List.set_cons_zero, List.set_cons_succ]
        refine wpAnyH_ready (rs := [3]) (by kernel_rfl) (by simp) ?_
        refine AllReadyH.cons (o := { dst := some 28, op := Op.buildSlice 22 1 #[(0, Operand.tmp 27)], type := 22, pos := "law.go:91", after := #[{ on := 2, ground := Ground.data }], guard := none }) rfl (fun K hK => ?_) AllReadyH.nil
        go_simp
        refine hK.out _ _ (hHeld.step ((Below.refl _ _).alloc (Nat.le_refl _) _)) (fun hHeld => ?_)
        clear hK K
        try simp only [Act.put, List.setIfInBounds_toArray, List.set_cons_zero, List.set_cons_succ]
        have HX : (w5.alloc (.cells #[.int .u8 (x2.P : Int), .int .u8 (x2.Via : Int), .int .u8 (x2.Metric : Int), .int .u8 (x2.Seq : Int), .int .u8 (x2.Later : Int)] 44)).heap[w5.heap.size]? = some (.cells x2.cl.toArray 44 (0, 0)) := heap_alloc_new w5 _
        have O6 : HOwn (w5.alloc (.cells #[.int .u8 (x2.P : Int), .int .u8 (x2.Via : Int), .int .u8 (x2.Metric : Int), .int .u8 (x2.Seq : Int), .int .u8 (x2.Later : Int)] 44)) wd.heap.size v5 z0 := O5.kept ((Below.refl _ _).alloc (Nat.le_refl _) _)
        have hC3 : Below wd.heap.size wd (w5.alloc (.cells #[.int .u8 (x2.P : Int), .int .u8 (x2.Via : Int), .int .u8 (x2.Metric : Int), .int .u8 (x2.Seq : Int), .int .u8 (x2.Later : Int)] 44)) := G5'.alloc G5'.size _
        refine wpAnyH_ready (rs := [4]) (by kernel_rfl) (by simp) ?_
        refine AllReadyH.cons (o := { dst := some 29, op := Op.call { callee := Callee.builtin Builtin.append, args := #[Operand.tmp 26, Operand.tmp 28], argTypes := #[22, 22] }, type := 22, pos := "law.go:91", after := #[{ on := 1, ground := Ground.data }, { on := 3, ground := Ground.data }, { on := 1, ground := Ground.chain }], guard := none }) rfl (fun K hK => ?_) AllReadyH.nil
        refine step_app5 rfl (.tmp 26) (.tmp 28) rfl wd.heap.size v5 z0 [x2] (some ⟨w5.heap.size, 0, none⟩) 1 1 rfl rfl O6 rfl (by intro h; cases h) (one_cells HX) (by intro h; cases h) (by have := HL.out; simp; omega) hC3.size ?_
        intro v6 w6 O7 G6
        have hr6 : ∀ k, v5.ownBlock = some k → w.heap.size + 1 < k := fun k hk => by have := (World.ownsRow.lt O6 k hk).1; omega
        have hC4 : Below wd.heap.size wd w6 := hC3.grown G6 hC3.size (fun k hk => (World.ownsRow.lt O6 k hk).1)
        clear O6 HX hC3
        refine hK.out _ _ (hHeld.grown G6 hr6) (fun hHeld => ?_)
        clear hK K
        try simp only [Act.put, List.setIfInBounds_toArray, List.set_cons_zero, List.set_cons_succ]
        obtain ⟨A6, c6, hv6, hs6⟩ := O7.form (by intro d hd; rcases List.mem_append.1 hd with h | h; exact HA.ok d h; rw [List.mem_singleton.1 h]; exact Wx2)
        obtain ⟨n1, hn1⟩ : ∃ n, n = (z0 ++ [x2]).length := ⟨_, rfl⟩
        rw [← hn1] at hv6
        subst hv6
        have HN1 := Lib.hid hn1
        clear hn1
        refine wpAnyH_ready (rs := [5]) (by kernel_rfl) (by simp) ?_
        refine AllReadyH.cons (o := { dst := some 30, op := Op.call { callee := Callee.value (Operand.func 8), args := #[Operand.tmp 29], argTypes := #[22] }, type := 24, pos := "law.go:91", after := #[{ on := 4, ground := Ground.data }, { on := 4, ground := Ground.chain }], guard := none }) rfl (fun K hK => ?_) AllReadyH.nil
        have c8 := history_any w6 A6 n1 c6 (z0 ++ [x2]) HN1.out (by have := HL.out; rw [HN1.out]; simp; omega) hs6
        go_simp
        with_reducible refine c8.mono ?_
        rintro e w7 ⟨v7, ca, rfl, OA, hAl, hAo, B7⟩
        refine hK.out _ _ (hHeld.step B7) (fun hHeld => ?_)
        clear hK K
        try simp only [Act.put, List.setIfInBounds_toArray, List.set_cons_zero, List.set_cons_succ]
        refine wpAnyH_take (i := 6) (oi := { dst := some 8, op := Op.assign (Operand.tmp 30), type := 24, pos := "law.go:91", after := #[{ on := 5, ground := Ground.data }, { on := 5, ground := Ground.chain }, { on := 0, ground := Ground.phase }, { on := 1, ground := Ground.phase }, { on := 2, ground := Ground.phase }, { on := 3, ground := Ground.phase }, { on := 4, ground := Ground.phase }, { on := 5, ground := Ground.phase }], guard := none }) (v := v7) rfl (by kernel_rfl) (by kernel_rfl) (by kernel_rfl) (fun _ _ _ h => h) (Or.inl ⟨by rfl, fun w hSw => by go_simp⟩) (by assumption) ?_
        try simp only [Act.put, List.setIfInBounds_toArray, List.set_cons_zero, List.set_cons_succ]
        refine wpAnyH_done (by kernel_rfl) ?_ _
        try unfold NoPanic
        have hC5 := hC4.trans (B7.mono hC4.size)
        have HR := Lib.hid (And.intro (ch_low OA (B1 := w.heap.size + 1 + 1) (by have h8 := hC4.size; omega)) (And.intro (hAl.trans HN1.out) hAo))
        clear OA hAl hAo
        go_wp2
        go_meet
        case rel => exact ⟨hHeld, HR1.out.step (hB1.trans (hC5.mono hB1.size)), _, HR.out⟩
      · go_simp
        refine hK.out _ _ (hHeld.step ((Below.refl _ _).alloc (Nat.le_refl _) _)) (fun hHeld => ?_)
        clear hK K
        try simp only [Act.put, List.setIfInBounds_toArray, List.set_cons_zero, List.set_cons_succ]
        refine wpAnyH_ready (rs := [1]) (by kernel_rfl) (by simp) ?_
        refine AllReadyH.cons (o := { dst := some 26, op := Op.call { callee := Callee.builtin Builtin.append, args := #[Operand.const (Value.slice none 0 0), Operand.tmp 25], argTypes := #[22, 22] }, type := 22, pos := "law.go:91", after := #[{ on := 0, ground := Ground.data }], guard := none }) rfl (fun K hK => ?_) AllReadyH.nil
        refine step_app5 rfl (.const (.slice none 0 0)) (.tmp 25) rfl wd.heap.size (.slice none 0 0) [] z0 a0 len0 cap0 rfl rfl (HOwn.nil _ _) HL.out hnil ((HA.below hHeld.be).news) HA.none (by have := HL.out; simp; omega) (by simp) ?_
        intro v5 w5 O5 G5
        have G5' : Below (wd.alloc (.cells #[.int .u8 (x2.P : Int), .int .u8 (x2.Via : Int), .int .u8 (x2.Metric : Int), .int .u8 (x2.Seq : Int), .int .u8 (x2.Later : Int)] 44)).heap.size (wd.alloc (.cells #[.int .u8 (x2.P : Int), .int .u8 (x2.Via : Int), .int .u8 (x2.Metric : Int), .int .u8 (x2.Seq : Int), .int .u8 (x2.Later : Int)] 44)) w5 := ⟨G5.os, G5.tape, G5.output, G5.size, fun k hk => G5.block k hk (by intro h; cases h)⟩
        refine hK.out _ _ (hHeld.step G5') (fun hHeld => ?_)
        clear hK K
        try simp only [Act.put, List.setIfInBounds_toArray, List.set_cons_zero, List.set_cons_succ]
        have HX : (w5).heap[wd.heap.size]? = some (.cells x2.cl.toArray 44 (0, 0)) := (G5'.block _ (by simp)).trans (heap_alloc_new wd _)
        have O6 : HOwn (w5) wd.heap.size v5 z0 := O5
        have hC3 : Below wd.heap.size wd (w5) := ((Below.refl _ _).alloc (Nat.le_refl _) _).trans (G5'.mono (by simp))
        refine wpAnyH_ready (rs := [4]) (by kernel_rfl) (by simp) ?_
        refine AllReadyH.cons (o := { dst := some 29, op := Op.call { callee := Callee.builtin Builtin.append, args := #[Operand.tmp 26, Operand.tmp 28], argTypes := #[22, 22] }, type := 22, pos := "law.go:91", after := #[{ on := 1, ground := Ground.data }, { on := 3, ground := Ground.data }, { on := 1, ground := Ground.chain }], guard := none }) rfl (fun K hK => ?_) AllReadyH.nil
        refine step_app5 rfl (.tmp 26) (.tmp 28) rfl wd.heap.size v5 z0 [x2] (some ⟨wd.heap.size, 0, none⟩) 1 1 rfl rfl O6 rfl (by intro h; cases h) (one_cells HX) (by intro h; cases h) (by have := HL.out; simp; omega) hC3.size ?_
        intro v6 w6 O7 G6
        have hr6 : ∀ k, v5.ownBlock = some k → w.heap.size + 1 < k := fun k hk => by have := (World.ownsRow.lt O6 k hk).1; omega
        have hC4 : Below wd.heap.size wd w6 := hC3.grown G6 hC3.size (fun k hk => (World.ownsRow.lt O6 k hk).1)
        clear O6 HX hC3
        refine hK.out _ _ (hHeld.grown G6 hr6) (fun hHeld => ?_)
        clear hK K
        try simp only [Act.put, List.setIfInBounds_toArray, List.set_cons_zero, List.set_cons_succ]
        obtain ⟨A6, c6, hv6, hs6⟩ := O7.form (by intro d hd; rcases List.mem_append.1 hd with h | h; exact HA.ok d h; rw [List.mem_singleton.1 h]; exact Wx2)
        obtain ⟨n1, hn1⟩ : ∃ n, n = (z0 ++ [x2]).length := ⟨_, rfl⟩
        rw [← hn1] at hv6
        subst hv6
        have HN1 := Lib.hid hn1
        clear hn1
        refine wpAnyH_ready (rs := [5]) (by kernel_rfl) (by simp) ?_
        refine AllReadyH.cons (o := { dst := some 30, op := Op.call { callee := Callee.value (Operand.func 8), args := #[Operand.tmp 29], argTypes := #[22] }, type := 24, pos := "law.go:91", after := #[{ on := 4, ground := Ground.data }, { on := 4, ground := Ground.chain }], guard := none }) rfl (fun K hK => ?_) AllReadyH.nil
        have c8 := history_any w6 A6 n1 c6 (z0 ++ [x2]) HN1.out (by have := HL.out; rw [HN1.out]; simp; omega) hs6
        go_simp
        with_reducible refine c8.mono ?_
        rintro e w7 ⟨v7, ca, rfl, OA, hAl, hAo, B7⟩
        refine hK.out _ _ (hHeld.step B7) (fun hHeld => ?_)
        clear hK K
        try simp only [Act.put, List.setIfInBounds_toArray, List.set_cons_zero, List.set_cons_succ]
        refine wpAnyH_take (i := 6) (oi := { dst := some 8, op := Op.assign (Operand.tmp 30), type := 24, pos := "law.go:91", after := #[{ on := 5, ground := Ground.data }, { on := 5, ground := Ground.chain }, { on := 0, ground := Ground.phase }, { on := 1, ground := Ground.phase }, { on := 2, ground := Ground.phase }, { on := 3, ground := Ground.phase }, { on := 4, ground := Ground.phase }, { on := 5, ground := Ground.phase }], guard := none }) (v := v7) rfl (by kernel_rfl) (by kernel_rfl) (by kernel_rfl) (fun _ _ _ h => h) (Or.inl ⟨by rfl, fun w hSw => by go_simp⟩) (by assumption) ?_
        try simp only [Act.put, List.setIfInBounds_toArray, List.set_cons_zero, List.set_cons_succ]
        refine wpAnyH_done (by kernel_rfl) ?_ _
        try unfold NoPanic
        have hC5 := hC4.trans (B7.mono hC4.size)
        have HR := Lib.hid (And.intro (ch_low OA (B1 := w.heap.size + 1 + 1) (by have h8 := hC4.size; omega)) (And.intro (hAl.trans HN1.out) hAo))
        clear OA hAl hAo
        go_wp2
        go_meet
        case rel => exact ⟨hHeld, HR1.out.step (hB1.trans (hC5.mono hB1.size)), _, HR.out⟩
    case rest =>
      obtain ⟨HB, HR1, cb, HR2⟩ := hcut
      generalize wc = wz at *
      obtain ⟨A7, c7, hv7, hs7, _⟩ := HR1.out.1.form
      obtain ⟨A8, c8, hv8, hs8, _⟩ := HR2.out.1.form
      have hla : ca.length = z0.length + 1 := by rw [HR1.out.2.1]; simp
      have hlb : cb.length = z0.length + 1 := by rw [HR2.out.2.1]; simp
      obtain ⟨N, hN⟩ : ∃ N, N = len0 + 1 := ⟨_, rfl⟩
      rw [hla, ← HL.out, ← hN] at hv7
      rw [hlb, ← HL.out, ← hN] at hv8
      subst hv7 hv8
      have hn0 : len0 < ca.length := by rw [hla, ← HL.out]; omega
      have hn1 : len0 < cb.length := by rw [hlb, ← HL.out]; omega
      obtain ⟨b7, o7, e7, hb7, hc7⟩ := hs7 len0 hn0
      obtain ⟨b8, o8, e8, hb8, hc8⟩ := hs8 len0 hn1
      subst e7 e8
      have hoa := (HR1.out.2.2 len0 hn0).2.2
      have hob := (HR2.out.2.2 len0 hn1).2.2
      have hlast : ∀ k, k + 1 = len0 → ∀ hk : k < ca.length, (ca[k]).After (ca[len0]) ∧ (ca[k]).After (cb[len0]) ∧ (ca[k]).Ok := fun k hk hkl => by
        have e1 := last_after HR1.out.2.2 HR1.out.2.2 k (by rw [hk]; exact HL.out) hla hla
        have e2 := last_after HR1.out.2.2 HR2.out.2.2 k (by rw [hk]; exact HL.out) hla hlb
        simp only [← HL.out] at e1 e2
        exact ⟨e1, e2, (HR1.out.2.2 k hkl).2.2⟩
      have hzero : len0 = 0 → C.zero.After (ca[len0]) ∧ C.zero.After (cb[len0]) := fun h => by
        subst h
        exact ⟨zero_after HR1.out.2.2 hn0, zero_after HR2.out.2.2 hn1⟩
      have hprev : ∀ k, k + 1 = len0 → ∃ hk : k < ca.length, ChAt wz b7 (o7 + k * 8) (ca[k]) := fun k hk => by
        have hkl : k < ca.length := by omega
        obtain ⟨b, o, e, _, hh⟩ := hs7 k hkl
        injection e with e
        injection e with e1 e2
        subst e1 e2
        exact ⟨hkl, hh⟩
      have HLA := Lib.hid (And.intro hlast hzero)
      have HPV := Lib.hid hprev
      have HNN := Lib.hid (And.intro hn0 hn1)
      obtain ⟨ea, hea⟩ : ∃ c, c = ca[len0] := ⟨_, rfl⟩
      obtain ⟨eb, heb⟩ : ∃ c, c = cb[len0] := ⟨_, rfl⟩
      rw [← hea] at hc7 hoa
      rw [← heb] at hc8 hob
      have HEA := Lib.hid hea
      have HEB := Lib.hid heb
      have hNi : (N : Int) - 1 = len0 := by omega
      have hNl : (len0 : Int) < N := by omega
      clear hea heb hlast hzero hprev hs7 hs8 hla hlb hN
      have HX7 := Lib.hid (And.intro hc7 (And.intro hb7 (And.intro hc8 hb8)))
      clear hc7 hc8 HR1 HR2
      have HBB := HB.be
      clear HB
      go_upto_if 36 with (fail)
      have BL : Below wz.heap.size wz (wz.alloc (.cells #[.int .u64 0, .int .u64 0, .bool false, .int .u32 0, .int .u8 0, .int .i64 0, .int .u16 0, .int .u16 0] 34)) := (Below.refl _ _).alloc (Nat.le_refl _) _
      have BR := heap_alloc_new wz (.cells #[.int .u64 0, .int .u64 0, .bool false, .int .u32 0, .int .u8 0, .int .i64 0, .int .u16 0, .int .u16 0] 34)
      generalize wz.alloc _ = wy at *
      go_cut [] (fun wx => Below wz.heap.size wz wx ∧ Hid (LastAt wx wz.heap.size ea eb))
      case first =>
        by_cases h0 : len0 = 0
        · have h0' : ¬ 0 < len0 := by omega
          have hz := HLA.out.2 h0
          rw [← HEA.out, ← HEB.out] at hz
          have HZ := Lib.hid hz
          clear hz h0
          go_wp2
          go_meet
          case rel => exact ⟨BL, C.zero, C.zero_ok, HZ.out.1, HZ.out.2, BR⟩
        · have h0' : 0 < len0 := by omega
          obtain ⟨k, hk⟩ : ∃ k, k + 1 = len0 := ⟨len0 - 1, by omega⟩
          obtain ⟨hkl, hp⟩ := HPV.out k hk
          have hz := HLA.out.1 k hk hkl
          rw [← HEA.out, ← HEB.out] at hz
          obtain ⟨lc, hlc⟩ : ∃ c, c = ca[k] := ⟨_, rfl⟩
          rw [← hlc] at hp hz
          have HZ := Lib.hid hz
          have hki : (len0 : Int) - 1 = k := by omega
          have hkN : (k : Int) < N := by omega
          obtain ⟨g0, g1, g2, g3, g4, g5, g6, g7⟩ := hp.keep (BL.block b7 HX7.out.2.1)
          have fz := fun i => frozen_of_row wy wz.heap.size i _ 34 BR
          obtain ⟨t0, t1, t2, t3, t4, t5, t6, t7⟩ := row8 BR
          have HBR := Lib.hid BR
          have HBL := Lib.hid BL
          clear hz hlc hp BR BL hkl hk h0
          go_wp2
          go_meet
          case rel => exact ⟨set8_below HBL.out (Nat.le_refl _) .., lc, HZ.out.2.2, HZ.out.1, HZ.out.2.1, put8 HBR.out ..⟩
      case rest =>
        obtain ⟨BW, HLast⟩ := hcut
        generalize wc = wq at *
        obtain ⟨last, hlok, hl1, hl2, hlr⟩ := HLast.out
        obtain ⟨X, hX⟩ : ∃ X, X = last.enc ea := ⟨_, rfl⟩
        obtain ⟨Y, hY⟩ : ∃ Y, Y = last.enc eb := ⟨_, rfl⟩
        have hEQ : X = Y ↔ ea = eb := by rw [hX, hY]; exact ⟨fun h => enc_inj hlok hoa hob hl1 hl2 h, fun h => by rw [h]⟩
        have cE1 : ∀ W, Calls Try.prog 9 #[.agg #[.int .u64 (last.no : Nat), .int .u64 (last.time : Nat), .bool last.gone, .int .u32 (last.addr : Nat), .int .u8 (last.len : Nat), .int .i64 (last.via : Nat), .int .u16 (last.metric : Nat), .int .u16 (last.seq : Nat)], .agg #[.int .u64 (ea.no : Nat), .int .u64 (ea.time : Nat), .bool ea.gone, .int .u32 (ea.addr : Nat), .int .u8 (ea.len : Nat), .int .i64 (ea.via : Nat), .int .u16 (ea.metric : Nat), .int .u16 (ea.seq : Nat)]] W (CoinOwn W X) := fun W => by
          have h := enc_any last ea hlok hoa hl1 W
          rw [← hX] at h
          exact h
        have cE2 : ∀ W, Calls Try.prog 9 #[.agg #[.int .u64 (last.no : Nat), .int .u64 (last.time : Nat), .bool last.gone, .int .u32 (last.addr : Nat), .int .u8 (last.len : Nat), .int .i64 (last.via : Nat), .int .u16 (last.metric : Nat), .int .u16 (last.seq : Nat)], .agg #[.int .u64 (eb.no : Nat), .int .u64 (eb.time : Nat), .bool eb.gone, .int .u32 (eb.addr : Nat), .int .u8 (eb.len : Nat), .int .i64 (eb.via : Nat), .int .u16 (eb.metric : Nat), .int .u16 (eb.seq : Nat)]] W (CoinOwn W Y) := fun W => by
          have h := enc_any last eb hlok hob hl2 W
          rw [← hY] at h
          exact h
        have HLR := Lib.hid hlr
        have H7 := Lib.hid (And.intro (HX7.out.1.keep (BW.block b7 HX7.out.2.1)) (Nat.lt_of_lt_of_le HX7.out.2.1 BW.size))
        have H8 := Lib.hid (And.intro (HX7.out.2.2.1.keep (BW.block b8 HX7.out.2.2.2)) (Nat.lt_of_lt_of_le HX7.out.2.2.2 BW.size))
        have HBW := Lib.hid (HBB.trans (BW.mono HBB.size))
        clear hX hY hlr hoa hob hl1 hl2 hlok BW HBB HLast HX7 HLA HPV
        go_upto_region 9 with (fail)
        by_cases hee : ea = eb
        · have hXY := hEQ.2 hee
          subst hee
          subst hXY
          have HES := Lib.hid (show ((str X).toList == (str X).toList) = true by simp)
          clear hEQ
          refine wp_region_noPanic ?_
          refine wp_region_held_drew (S := fun W : World => Below wq.heap.size wq W) (by kernel_rfl) ((Below.refl _ _).drew) (fun hHeld => ?_)
          generalize wq.drew = wd at *
          refine wpAnyH_take (i := 0) (oi := { dst := some 42, op := Op.load 34 (Operand.tmp 10), type := 34, pos := "law.go:97", after := #[], guard := none }) (v := .agg #[.int .u64 (last.no : Nat), .int .u64 (last.time : Nat), .bool last.gone, .int .u32 (last.addr : Nat), .int .u8 (last.len : Nat), .int .i64 (last.via : Nat), .int .u16 (last.metric : Nat), .int .u16 (last.seq : Nat)]) rfl (by kernel_rfl) (by kernel_rfl) (by kernel_rfl) (fun _ _ _ h => h) (Or.inl ⟨by rfl, fun w hSw => by obtain ⟨k0, k1, k2, k3, k4, k5, k6, k7⟩ := row8 ((hSw.block _ (Array.getElem?_eq_some_iff.1 HLR.out).1).trans HLR.out); go_simp⟩) (by assumption) ?_
          try simp only [Act.put, List.setIfInBounds_toArray, List.set_cons_zero, List.set_cons_succ]
          refine wpAnyH_take (i := 1) (oi := { dst := some 43, op := Op.move (Operand.tmp 7), type := 24, pos := "law.go:97", after := #[], guard := none }) (v := .slice (some ⟨b7, o7, none⟩) N c7) rfl (by kernel_rfl) (by kernel_rfl) (by kernel_rfl) (fun _ _ _ h => h) (Or.inl ⟨by rfl, fun w hSw => by go_simp⟩) (by assumption) ?_
          try simp only [Act.put, List.setIfInBounds_toArray, List.set_cons_zero, List.set_cons_succ]
          refine wpAnyH_take (i := 2) (oi := { dst := some 44, op := Op.move (Operand.tmp 9), type := 3, pos := "law.go:97", after := #[], guard := none }) (v := .int .i64 (len0 : Int)) rfl (by kernel_rfl) (by kernel_rfl) (by kernel_rfl) (fun _ _ _ h => h) (Or.inl ⟨by rfl, fun w hSw => by go_simp⟩) (by assumption) ?_
          try simp only [Act.put, List.setIfInBounds_toArray, List.set_cons_zero, List.set_cons_succ]
          refine wpAnyH_take (i := 3) (oi := { dst := some 45, op := Op.indexAddr 24 (Operand.tmp 43) (Operand.tmp 44), type := 0, pos := "law.go:97", after := #[{ on := 1, ground := Ground.data }, { on := 2, ground := Ground.data }], guard := none }) (v := .pointer (some ⟨b7, o7 + len0 * 8, none⟩)) rfl (by kernel_rfl) (by kernel_rfl) (by kernel_rfl) (fun _ _ _ h => h) (Or.inl ⟨by rfl, fun w hSw => by go_simp⟩) (by assumption) ?_
          try simp only [Act.put, List.setIfInBounds_toArray, List.set_cons_zero, List.set_cons_succ]
          refine wpAnyH_take (i := 4) (oi := { dst := some 46, op := Op.load 34 (Operand.tmp 45), type := 34, pos := "law.go:97", after := #[{ on := 3, ground := Ground.data }], guard := none }) (v := .agg #[.int .u64 (ea.no : Nat), .int .u64 (ea.time : Nat), .bool ea.gone, .int .u32 (ea.addr : Nat), .int .u8 (ea.len : Nat), .int .i64 (ea.via : Nat), .int .u16 (ea.metric : Nat), .int .u16 (ea.seq : Nat)]) rfl (by kernel_rfl) (by kernel_rfl) (by kernel_rfl) (fun _ _ _ h => h) (Or.inl ⟨by rfl, fun w hSw => by obtain ⟨k0, k1, k2, k3, k4, k5, k6, k7⟩ := H7.out.1.keep (hSw.block b7 H7.out.2); go_simp⟩) (by assumption) ?_
          try simp only [Act.put, List.setIfInBounds_toArray, List.set_cons_zero, List.set_cons_succ]
          refine wpAnyH_take (i := 7) (oi := { dst := some 49, op := Op.load 34 (Operand.tmp 10), type := 34, pos := "law.go:97", after := #[], guard := none }) (v := .agg #[.int .u64 (last.no : Nat), .int .u64 (last.time : Nat), .bool last.gone, .int .u32 (last.addr : Nat), .int .u8 (last.len : Nat), .int .i64 (last.via : Nat), .int .u16 (last.metric : Nat), .int .u16 (last.seq : Nat)]) rfl (by kernel_rfl) (by kernel_rfl) (by kernel_rfl) (fun _ _ _ h => h) (Or.inl ⟨by rfl, fun w hSw => by obtain ⟨k0, k1, k2, k3, k4, k5, k6, k7⟩ := row8 ((hSw.block _ (Array.getElem?_eq_some_iff.1 HLR.out).1).trans HLR.out); go_simp⟩) (by assumption) ?_
          try simp only [Act.put, List.setIfInBounds_toArray, List.set_cons_zero, List.set_cons_succ]
          refine wpAnyH_take (i := 8) (oi := { dst := some 50, op := Op.move (Operand.tmp 8), type := 24, pos := "law.go:97", after := #[], guard := none }) (v := .slice (some ⟨b8, o8, none⟩) N c8) rfl (by kernel_rfl) (by kernel_rfl) (by kernel_rfl) (fun _ _ _ h => h) (Or.inl ⟨by rfl, fun w hSw => by go_simp⟩) (by assumption) ?_
          try simp only [Act.put, List.setIfInBounds_toArray, List.set_cons_zero, List.set_cons_succ]
          refine wpAnyH_take (i := 9) (oi := { dst := some 51, op := Op.move (Operand.tmp 9), type := 3, pos := "law.go:97", after := #[], guard := none }) (v := .int .i64 (len0 : Int)) rfl (by kernel_rfl) (by kernel_rfl) (by kernel_rfl) (fun _ _ _ h => h) (Or.inl ⟨by rfl, fun w hSw => by go_simp⟩) (by assumption) ?_
          try simp only [Act.put, List.setIfInBounds_toArray, List.set_cons_zero, List.set_cons_succ]
          refine wpAnyH_take (i := 10) (oi := { dst := some 52, op := Op.indexAddr 24 (Operand.tmp 50) (Operand.tmp 51), type := 0, pos := "law.go:97", after := #[{ on := 8, ground := Ground.data }, { on := 9, ground := Ground.data }], guard := none }) (v := .pointer (some ⟨b8, o8 + len0 * 8, none⟩)) rfl (by kernel_rfl) (by kernel_rfl) (by kernel_rfl) (fun _ _ _ h => h) (Or.inl ⟨by rfl, fun w hSw => by go_simp⟩) (by assumption) ?_
          try simp only [Act.put, List.setIfInBounds_toArray, List.set_cons_zero, List.set_cons_succ]
          refine wpAnyH_take (i := 11) (oi := { dst := some 53, op := Op.load 34 (Operand.tmp 52), type := 34, pos := "law.go:97", after := #[{ on := 10, ground := Ground.data }], guard := none }) (v := .agg #[.int .u64 (ea.no : Nat), .int .u64 (ea.time : Nat), .bool ea.gone, .int .u32 (ea.addr : Nat), .int .u8 (ea.len : Nat), .int .i64 (ea.via : Nat), .int .u16 (ea.metric : Nat), .int .u16 (ea.seq : Nat)]) rfl (by kernel_rfl) (by kernel_rfl) (by kernel_rfl) (fun _ _ _ h => h) (Or.inl ⟨by rfl, fun w hSw => by obtain ⟨k0, k1, k2, k3, k4, k5, k6, k7⟩ := H8.out.1.keep (hSw.block b8 H8.out.2); go_simp⟩) (by assumption) ?_
          try simp only [Act.put, List.setIfInBounds_toArray, List.set_cons_zero, List.set_cons_succ]
          refine wpAnyH_take (i := 15) (oi := { dst := some 57, op := Op.move (Operand.tmp 7), type := 24, pos := "law.go:97", after := #[], guard := none }) (v := .slice (some ⟨b7, o7, none⟩) N c7) rfl (by kernel_rfl) (by kernel_rfl) (by kernel_rfl) (fun _ _ _ h => h) (Or.inl ⟨by rfl, fun w hSw => by go_simp⟩) (by assumption) ?_
          try simp only [Act.put, List.setIfInBounds_toArray, List.set_cons_zero, List.set_cons_succ]
          refine wpAnyH_take (i := 16) (oi := { dst := some 58, op := Op.move (Operand.tmp 9), type := 3, pos := "law.go:97", after := #[], guard := none }) (v := .int .i64 (len0 : Int)) rfl (by kernel_rfl) (by kernel_rfl) (by kernel_rfl) (fun _ _ _ h => h) (Or.inl ⟨by rfl, fun w hSw => by go_simp⟩) (by assumption) ?_
          try simp only [Act.put, List.setIfInBounds_toArray, List.set_cons_zero, List.set_cons_succ]
          refine wpAnyH_take (i := 17) (oi := { dst := some 59, op := Op.indexAddr 24 (Operand.tmp 57) (Operand.tmp 58), type := 0, pos := "law.go:97", after := #[{ on := 15, ground := Ground.data }, { on := 16, ground := Ground.data }], guard := none }) (v := .pointer (some ⟨b7, o7 + len0 * 8, none⟩)) rfl (by kernel_rfl) (by kernel_rfl) (by kernel_rfl) (fun _ _ _ h => h) (Or.inl ⟨by rfl, fun w hSw => by go_simp⟩) (by assumption) ?_
          try simp only [Act.put, List.setIfInBounds_toArray, List.set_cons_zero, List.set_cons_succ]
          refine wpAnyH_take (i := 18) (oi := { dst := some 60, op := Op.load 34 (Operand.tmp 59), type := 34, pos := "law.go:97", after := #[{ on := 17, ground := Ground.data }], guard := none }) (v := .agg #[.int .u64 (ea.no : Nat), .int .u64 (ea.time : Nat), .bool ea.gone, .int .u32 (ea.addr : Nat), .int .u8 (ea.len : Nat), .int .i64 (ea.via : Nat), .int .u16 (ea.metric : Nat), .int .u16 (ea.seq : Nat)]) rfl (by kernel_rfl) (by kernel_rfl) (by kernel_rfl) (fun _ _ _ h => h) (Or.inl ⟨by rfl, fun w hSw => by obtain ⟨k0, k1, k2, k3, k4, k5, k6, k7⟩ := H7.out.1.keep (hSw.block b7 H7.out.2); go_simp⟩) (by assumption) ?_
          try simp only [Act.put, List.setIfInBounds_toArray, List.set_cons_zero, List.set_cons_succ]
          refine wpAnyH_take (i := 19) (oi := { dst := some 61, op := Op.move (Operand.tmp 8), type := 24, pos := "law.go:97", after := #[], guard := none }) (v := .slice (some ⟨b8, o8, none⟩) N c8) rfl (by kernel_rfl) (by kernel_rfl) (by kernel_rfl) (fun _ _ _ h => h) (Or.inl ⟨by rfl, fun w hSw => by go_simp⟩) (by assumption) ?_
          try simp only [Act.put, List.setIfInBounds_toArray, List.set_cons_zero, List.set_cons_succ]
          refine wpAnyH_take (i := 20) (oi := { dst := some 62, op := Op.move (Operand.tmp 9), type := 3, pos := "law.go:97", after := #[], guard := none }) (v := .int .i64 (len0 : Int)) rfl (by kernel_rfl) (by kernel_rfl) (by kernel_rfl) (fun _ _ _ h => h) (Or.inl ⟨by rfl, fun w hSw => by go_simp⟩) (by assumption) ?_
          try simp only [Act.put, List.setIfInBounds_toArray, List.set_cons_zero, List.set_cons_succ]
          refine wpAnyH_take (i := 21) (oi := { dst := some 63, op := Op.indexAddr 24 (Operand.tmp 61) (Operand.tmp 62), type := 0, pos := "law.go:97", after := #[{ on := 19, ground := Ground.data }, { on := 20, ground := Ground.data }], guard := none }) (v := .pointer (some ⟨b8, o8 + len0 * 8, none⟩)) rfl (by kernel_rfl) (by kernel_rfl) (by kernel_rfl) (fun _ _ _ h => h) (Or.inl ⟨by rfl, fun w hSw => by go_simp⟩) (by assumption) ?_
          try simp only [Act.put, List.setIfInBounds_toArray, List.set_cons_zero, List.set_cons_succ]
          refine wpAnyH_take (i := 22) (oi := { dst := some 64, op := Op.load 34 (Operand.tmp 63), type := 34, pos := "law.go:97", after := #[{ on := 21, ground := Ground.data }], guard := none }) (v := .agg #[.int .u64 (ea.no : Nat), .int .u64 (ea.time : Nat), .bool ea.gone, .int .u32 (ea.addr : Nat), .int .u8 (ea.len : Nat), .int .i64 (ea.via : Nat), .int .u16 (ea.metric : Nat), .int .u16 (ea.seq : Nat)]) rfl (by kernel_rfl) (by kernel_rfl) (by kernel_rfl) (fun _ _ _ h => h) (Or.inl ⟨by rfl, fun w hSw => by obtain ⟨k0, k1, k2, k3, k4, k5, k6, k7⟩ := H8.out.1.keep (hSw.block b8 H8.out.2); go_simp⟩) (by assumption) ?_
          try simp only [Act.put, List.setIfInBounds_toArray, List.set_cons_zero, List.set_cons_succ]
          refine wpAnyH_take (i := 23) (oi := { dst := some 65, op := Op.binOp BinOp.eql 34 (Operand.tmp 60) (Operand.tmp 64) 34, type := 4, pos := "law.go:97", after := #[{ on := 18, ground := Ground.data }, { on := 22, ground := Ground.data }], guard := none }) (v := .bool true) rfl (by kernel_rfl) (by kernel_rfl) (by kernel_rfl) (fun _ _ _ h => h) (Or.inl ⟨by rfl, fun w hSw => by go_simp⟩) (by assumption) ?_
          try simp only [Act.put, List.setIfInBounds_toArray, List.set_cons_zero, List.set_cons_succ]
          refine wpAnyH_ready (rs := [5]) (by kernel_rfl) (by simp) ?_
          refine AllReadyH.cons (o := { dst := some 47, op := Op.call { callee := Callee.value (Operand.func 9), args := #[Operand.tmp 42, Operand.tmp 46], argTypes := #[34, 34] }, type := 35, pos := "law.go:97", after := #[{ on := 0, ground := Ground.data }, { on := 4, ground := Ground.data }], guard := none }) rfl (fun K hK => ?_) AllReadyH.nil
          go_simp
          with_reducible refine (cE1 _).mono ?_
          rintro e w5 ⟨v5, rfl, O5, B5⟩
          obtain ⟨A5, c5, hv5, R5, _, _⟩ := O5.form
          subst hv5
          have D5 := Below.refl w5.heap.size w5
          clear O5
          refine hK.out _ _ (hHeld.trans (B5.mono hHeld.size)) (fun hHeld => ?_)
          clear hK K
          try simp only [Act.put, List.setIfInBounds_toArray, List.set_cons_zero, List.set_cons_succ]
          refine wpAnyH_ready (rs := [6, 12]) (by kernel_rfl) (by simp) ?_
          refine (AllReadyH.cons (o := { dst := some 48, op := Op.convert 35 9 (Operand.tmp 47), type := 9, pos := "law.go:97", after := #[{ on := 5, ground := Ground.data }], guard := none }) rfl (fun K hK => ?_) (AllReadyH.cons (o := { dst := some 54, op := Op.call { callee := Callee.value (Operand.func 9), args := #[Operand.tmp 49, Operand.tmp 53], argTypes := #[34, 34] }, type := 35, pos := "law.go:97", after := #[{ on := 7, ground := Ground.data }, { on := 11, ground := Ground.data }, { on := 5, ground := Ground.chain }], guard := none }) rfl (fun K hK => ?_) AllReadyH.nil))
          · have cv := conv_any (R5.below D5 (Nat.le_refl _)) X.length c5 rfl
            go_simp
            refine hK.out _ _ (hHeld) (fun hHeld => ?_)
            clear hK K
            try simp only [Act.put, List.setIfInBounds_toArray, List.set_cons_zero, List.set_cons_succ]
            clear cv
            refine wpAnyH_ready (rs := [12]) (by kernel_rfl) (by simp) ?_
            refine AllReadyH.cons (o := { dst := some 54, op := Op.call { callee := Callee.value (Operand.func 9), args := #[Operand.tmp 49, Operand.tmp 53], argTypes := #[34, 34] }, type := 35, pos := "law.go:97", after := #[{ on := 7, ground := Ground.data }, { on := 11, ground := Ground.data }, { on := 5, ground := Ground.chain }], guard := none }) rfl (fun K hK => ?_) AllReadyH.nil
            go_simp
            with_reducible refine (cE2 _).mono ?_
            rintro e w12 ⟨v12, rfl, O12, B12⟩
            obtain ⟨A12, c12, hv12, R12, _, _⟩ := O12.form
            subst hv12
            have D5 := D5.trans (B12.mono D5.size)
            clear O12
            refine hK.out _ _ (hHeld.trans (B12.mono hHeld.size)) (fun hHeld => ?_)
            clear hK K
            try simp only [Act.put, List.setIfInBounds_toArray, List.set_cons_zero, List.set_cons_succ]
            refine wpAnyH_ready (rs := [13]) (by kernel_rfl) (by simp) ?_
            refine AllReadyH.cons (o := { dst := some 55, op := Op.convert 35 9 (Operand.tmp 54), type := 9, pos := "law.go:97", after := #[{ on := 12, ground := Ground.data }], guard := none }) rfl (fun K hK => ?_) AllReadyH.nil
            have cv := conv_any R12 X.length c12 rfl
            go_simp
            refine hK.out _ _ (hHeld) (fun hHeld => ?_)
            clear hK K
            try simp only [Act.put, List.setIfInBounds_toArray, List.set_cons_zero, List.set_cons_succ]
            clear cv
            have es : ((str X).toList == (str X).toList) = true := HES.out
            generalize str X = sX at *
            refine wpAnyH_ready (rs := [14]) (by kernel_rfl) (by simp) ?_
            refine AllReadyH.cons (o := { dst := some 56, op := Op.binOp BinOp.eql 9 (Operand.tmp 48) (Operand.tmp 55) 9, type := 4, pos := "law.go:97", after := #[{ on := 6, ground := Ground.data }, { on := 13, ground := Ground.data }], guard := none }) rfl (fun K hK => ?_) AllReadyH.nil
            go_simp
            refine hK.out _ _ (hHeld) (fun hHeld => ?_)
            clear hK K
            try simp only [Act.put, List.setIfInBounds_toArray, List.set_cons_zero, List.set_cons_succ]
            refine wpAnyH_ready (rs := [24]) (by kernel_rfl) (by simp) ?_
            refine AllReadyH.cons (o := { dst := some 66, op := Op.binOp BinOp.eql 4 (Operand.tmp 56) (Operand.tmp 65) 4, type := 4, pos := "law.go:97", after := #[{ on := 14, ground := Ground.data }, { on := 23, ground := Ground.data }], guard := none }) rfl (fun K hK => ?_) AllReadyH.nil
            go_simp
            refine hK.out _ _ (hHeld) (fun hHeld => ?_)
            clear hK K
            try simp only [Act.put, List.setIfInBounds_toArray, List.set_cons_zero, List.set_cons_succ]
            refine wpAnyH_ready (rs := [25]) (by kernel_rfl) (by simp) ?_
            refine AllReadyH.cons (o := { dst := some 6, op := Op.assign (Operand.tmp 66), type := 4, pos := "law.go:97", after := #[{ on := 24, ground := Ground.data }, { on := 12, ground := Ground.chain }, { on := 0, ground := Ground.phase }, { on := 1, ground := Ground.phase }, { on := 2, ground := Ground.phase }, { on := 3, ground := Ground.phase }, { on := 4, ground := Ground.phase }, { on := 5, ground := Ground.phase }, { on := 6, ground := Ground.phase }, { on := 7, ground := Ground.phase }, { on := 8, ground := Ground.phase }, { on := 9, ground := Ground.phase }, { on := 10, ground := Ground.phase }, { on := 11, ground := Ground.phase }, { on := 12, ground := Ground.phase }, { on := 13, ground := Ground.phase }, { on := 14, ground := Ground.phase }, { on := 15, ground := Ground.phase }, { on := 16, ground := Ground.phase }, { on := 17, ground := Ground.phase }, { on := 18, ground := Ground.phase }, { on := 19, ground := Ground.phase }, { on := 20, ground := Ground.phase }, { on := 21, ground := Ground.phase }, { on := 22, ground := Ground.phase }, { on := 23, ground := Ground.phase }, { on := 24, ground := Ground.phase }], guard := none }) rfl (fun K hK => ?_) AllReadyH.nil
            go_simp
            refine hK.out _ _ (hHeld) (fun hHeld => ?_)
            clear hK K
            try simp only [Act.put, List.setIfInBounds_toArray, List.set_cons_zero, List.set_cons_succ]
            refine wpAnyH_done (by kernel_rfl) ?_ _
            try unfold NoPanic
            go_wp2
            go_ret
            exact ⟨by first | rfl | exact ret_bool (by simp), HBW.out.trans (hHeld.mono HBW.out.size)⟩
          · go_simp
            with_reducible refine (cE2 _).mono ?_
            rintro e w12 ⟨v12, rfl, O12, B12⟩
            obtain ⟨A12, c12, hv12, R12, _, _⟩ := O12.form
            subst hv12
            have D5 := D5.trans (B12.mono D5.size)
            clear O12
            refine hK.out _ _ (hHeld.trans (B12.mono hHeld.size)) (fun hHeld => ?_)
            clear hK K
            try simp only [Act.put, List.setIfInBounds_toArray, List.set_cons_zero, List.set_cons_succ]
            refine wpAnyH_ready (rs := [6, 13]) (by kernel_rfl) (by simp) ?_
            refine (AllReadyH.cons (o := { dst := some 48, op := Op.convert 35 9 (Operand.tmp 47), type := 9, pos := "law.go:97", after := #[{ on := 5, ground := Ground.data }], guard := none }) rfl (fun K hK => ?_) (AllReadyH.cons (o := { dst := some 55, op := Op.convert 35 9 (Operand.tmp 54), type := 9, pos := "law.go:97", after := #[{ on := 12, ground := Ground.data }], guard := none }) rfl (fun K hK => ?_) AllReadyH.nil))
            · have cv := conv_any (R5.below D5 (Nat.le_refl _)) X.length c5 rfl
              go_simp
              refine hK.out _ _ (hHeld) (fun hHeld => ?_)
              clear hK K
              try simp only [Act.put, List.setIfInBounds_toArray, List.set_cons_zero, List.set_cons_succ]
              clear cv
              refine wpAnyH_ready (rs := [13]) (by kernel_rfl) (by simp) ?_
              refine AllReadyH.cons (o := { dst := some 55, op := Op.convert 35 9 (Operand.tmp 54), type := 9, pos := "law.go:97", after := #[{ on := 12, ground := Ground.data }], guard := none }) rfl (fun K hK => ?_) AllReadyH.nil
              have cv := conv_any R12 X.length c12 rfl
              go_simp
              refine hK.out _ _ (hHeld) (fun hHeld => ?_)
              clear hK K
              try simp only [Act.put, List.setIfInBounds_toArray, List.set_cons_zero, List.set_cons_succ]
              clear cv
              have es : ((str X).toList == (str X).toList) = true := HES.out
              generalize str X = sX at *
              refine wpAnyH_ready (rs := [14]) (by kernel_rfl) (by simp) ?_
              refine AllReadyH.cons (o := { dst := some 56, op := Op.binOp BinOp.eql 9 (Operand.tmp 48) (Operand.tmp 55) 9, type := 4, pos := "law.go:97", after := #[{ on := 6, ground := Ground.data }, { on := 13, ground := Ground.data }], guard := none }) rfl (fun K hK => ?_) AllReadyH.nil
              go_simp
              refine hK.out _ _ (hHeld) (fun hHeld => ?_)
              clear hK K
              try simp only [Act.put, List.setIfInBounds_toArray, List.set_cons_zero, List.set_cons_succ]
              refine wpAnyH_ready (rs := [24]) (by kernel_rfl) (by simp) ?_
              refine AllReadyH.cons (o := { dst := some 66, op := Op.binOp BinOp.eql 4 (Operand.tmp 56) (Operand.tmp 65) 4, type := 4, pos := "law.go:97", after := #[{ on := 14, ground := Ground.data }, { on := 23, ground := Ground.data }], guard := none }) rfl (fun K hK => ?_) AllReadyH.nil
              go_simp
              refine hK.out _ _ (hHeld) (fun hHeld => ?_)
              clear hK K
              try simp only [Act.put, List.setIfInBounds_toArray, List.set_cons_zero, List.set_cons_succ]
              refine wpAnyH_ready (rs := [25]) (by kernel_rfl) (by simp) ?_
              refine AllReadyH.cons (o := { dst := some 6, op := Op.assign (Operand.tmp 66), type := 4, pos := "law.go:97", after := #[{ on := 24, ground := Ground.data }, { on := 12, ground := Ground.chain }, { on := 0, ground := Ground.phase }, { on := 1, ground := Ground.phase }, { on := 2, ground := Ground.phase }, { on := 3, ground := Ground.phase }, { on := 4, ground := Ground.phase }, { on := 5, ground := Ground.phase }, { on := 6, ground := Ground.phase }, { on := 7, ground := Ground.phase }, { on := 8, ground := Ground.phase }, { on := 9, ground := Ground.phase }, { on := 10, ground := Ground.phase }, { on := 11, ground := Ground.phase }, { on := 12, ground := Ground.phase }, { on := 13, ground := Ground.phase }, { on := 14, ground := Ground.phase }, { on := 15, ground := Ground.phase }, { on := 16, ground := Ground.phase }, { on := 17, ground := Ground.phase }, { on := 18, ground := Ground.phase }, { on := 19, ground := Ground.phase }, { on := 20, ground := Ground.phase }, { on := 21, ground := Ground.phase }, { on := 22, ground := Ground.phase }, { on := 23, ground := Ground.phase }, { on := 24, ground := Ground.phase }], guard := none }) rfl (fun K hK => ?_) AllReadyH.nil
              go_simp
              refine hK.out _ _ (hHeld) (fun hHeld => ?_)
              clear hK K
              try simp only [Act.put, List.setIfInBounds_toArray, List.set_cons_zero, List.set_cons_succ]
              refine wpAnyH_done (by kernel_rfl) ?_ _
              try unfold NoPanic
              go_wp2
              go_ret
              exact ⟨by first | rfl | exact ret_bool (by simp), HBW.out.trans (hHeld.mono HBW.out.size)⟩
            · have cv := conv_any R12 X.length c12 rfl
              go_simp
              refine hK.out _ _ (hHeld) (fun hHeld => ?_)
              clear hK K
              try simp only [Act.put, List.setIfInBounds_toArray, List.set_cons_zero, List.set_cons_succ]
              clear cv
              refine wpAnyH_ready (rs := [6]) (by kernel_rfl) (by simp) ?_
              refine AllReadyH.cons (o := { dst := some 48, op := Op.convert 35 9 (Operand.tmp 47), type := 9, pos := "law.go:97", after := #[{ on := 5, ground := Ground.data }], guard := none }) rfl (fun K hK => ?_) AllReadyH.nil
              have cv := conv_any (R5.below D5 (Nat.le_refl _)) X.length c5 rfl
              go_simp
              refine hK.out _ _ (hHeld) (fun hHeld => ?_)
              clear hK K
              try simp only [Act.put, List.setIfInBounds_toArray, List.set_cons_zero, List.set_cons_succ]
              clear cv
              have es : ((str X).toList == (str X).toList) = true := HES.out
              generalize str X = sX at *
              refine wpAnyH_ready (rs := [14]) (by kernel_rfl) (by simp) ?_
              refine AllReadyH.cons (o := { dst := some 56, op := Op.binOp BinOp.eql 9 (Operand.tmp 48) (Operand.tmp 55) 9, type := 4, pos := "law.go:97", after := #[{ on := 6, ground := Ground.data }, { on := 13, ground := Ground.data }], guard := none }) rfl (fun K hK => ?_) AllReadyH.nil
              go_simp
              refine hK.out _ _ (hHeld) (fun hHeld => ?_)
              clear hK K
              try simp only [Act.put, List.setIfInBounds_toArray, List.set_cons_zero, List.set_cons_succ]
              refine wpAnyH_ready (rs := [24]) (by kernel_rfl) (by simp) ?_
              refine AllReadyH.cons (o := { dst := some 66, op := Op.binOp BinOp.eql 4 (Operand.tmp 56) (Operand.tmp 65) 4, type := 4, pos := "law.go:97", after := #[{ on := 14, ground := Ground.data }, { on := 23, ground := Ground.data }], guard := none }) rfl (fun K hK => ?_) AllReadyH.nil
              go_simp
              refine hK.out _ _ (hHeld) (fun hHeld => ?_)
              clear hK K
              try simp only [Act.put, List.setIfInBounds_toArray, List.set_cons_zero, List.set_cons_succ]
              refine wpAnyH_ready (rs := [25]) (by kernel_rfl) (by simp) ?_
              refine AllReadyH.cons (o := { dst := some 6, op := Op.assign (Operand.tmp 66), type := 4, pos := "law.go:97", after := #[{ on := 24, ground := Ground.data }, { on := 12, ground := Ground.chain }, { on := 0, ground := Ground.phase }, { on := 1, ground := Ground.phase }, { on := 2, ground := Ground.phase }, { on := 3, ground := Ground.phase }, { on := 4, ground := Ground.phase }, { on := 5, ground := Ground.phase }, { on := 6, ground := Ground.phase }, { on := 7, ground := Ground.phase }, { on := 8, ground := Ground.phase }, { on := 9, ground := Ground.phase }, { on := 10, ground := Ground.phase }, { on := 11, ground := Ground.phase }, { on := 12, ground := Ground.phase }, { on := 13, ground := Ground.phase }, { on := 14, ground := Ground.phase }, { on := 15, ground := Ground.phase }, { on := 16, ground := Ground.phase }, { on := 17, ground := Ground.phase }, { on := 18, ground := Ground.phase }, { on := 19, ground := Ground.phase }, { on := 20, ground := Ground.phase }, { on := 21, ground := Ground.phase }, { on := 22, ground := Ground.phase }, { on := 23, ground := Ground.phase }, { on := 24, ground := Ground.phase }], guard := none }) rfl (fun K hK => ?_) AllReadyH.nil
              go_simp
              refine hK.out _ _ (hHeld) (fun hHeld => ?_)
              clear hK K
              try simp only [Act.put, List.setIfInBounds_toArray, List.set_cons_zero, List.set_cons_succ]
              refine wpAnyH_done (by kernel_rfl) ?_ _
              try unfold NoPanic
              go_wp2
              go_ret
              exact ⟨by first | rfl | exact ret_bool (by simp), HBW.out.trans (hHeld.mono HBW.out.size)⟩
        · have hXY : ¬ X = Y := fun h => hee (hEQ.1 h)
          have HES := Lib.hid (show ((str X).toList == (str Y).toList) = false by rw [str_toList, str_toList]; simpa using hXY)
          have HNE := Lib.hid (show ¬ (ea.no = eb.no ∧ ea.time = eb.time ∧ ea.gone = eb.gone ∧ ea.addr = eb.addr ∧ ea.len = eb.len ∧ ea.via = eb.via ∧ ea.metric = eb.metric ∧ ea.seq = eb.seq) from fun ⟨h1, h2, h3, h4, h5, h6, h7, h8⟩ => hee (C.ext' h1 h2 h3 h4 h5 h6 h7 h8))
          clear hEQ hee hXY
          refine wp_region_noPanic ?_
          refine wp_region_held_drew (S := fun W : World => Below wq.heap.size wq W) (by kernel_rfl) ((Below.refl _ _).drew) (fun hHeld => ?_)
          generalize wq.drew = wd at *
          refine wpAnyH_take (i := 0) (oi := { dst := some 42, op := Op.load 34 (Operand.tmp 10), type := 34, pos := "law.go:97", after := #[], guard := none }) (v := .agg #[.int .u64 (last.no : Nat), .int .u64 (last.time : Nat), .bool last.gone, .int .u32 (last.addr : Nat), .int .u8 (last.len : Nat), .int .i64 (last.via : Nat), .int .u16 (last.metric : Nat), .int .u16 (last.seq : Nat)]) rfl (by kernel_rfl) (by kernel_rfl) (by kernel_rfl) (fun _ _ _ h => h) (Or.inl ⟨by rfl, fun w hSw => by obtain ⟨k0, k1, k2, k3, k4, k5, k6, k7⟩ := row8 ((hSw.block _ (Array.getElem?_eq_some_iff.1 HLR.out).1).trans HLR.out); go_simp⟩) (by assumption) ?_
          try simp only [Act.put, List.setIfInBounds_toArray, List.set_cons_zero, List.set_cons_succ]
          refine wpAnyH_take (i := 1) (oi := { dst := some 43, op := Op.move (Operand.tmp 7), type := 24, pos := "law.go:97", after := #[], guard := none }) (v := .slice (some ⟨b7, o7, none⟩) N c7) rfl (by kernel_rfl) (by kernel_rfl) (by kernel_rfl) (fun _ _ _ h => h) (Or.inl ⟨by rfl, fun w hSw => by go_simp⟩) (by assumption) ?_
          try simp only [Act.put, List.setIfInBounds_toArray, List.set_cons_zero, List.set_cons_succ]
          refine wpAnyH_take (i := 2) (oi := { dst := some 44, op := Op.move (Operand.tmp 9), type := 3, pos := "law.go:97", after := #[], guard := none }) (v := .int .i64 (len0 : Int)) rfl (by kernel_rfl) (by kernel_rfl) (by kernel_rfl) (fun _ _ _ h => h) (Or.inl ⟨by rfl, fun w hSw => by go_simp⟩) (by assumption) ?_
          try simp only [Act.put, List.setIfInBounds_toArray, List.set_cons_zero, List.set_cons_succ]
          refine wpAnyH_take (i := 3) (oi := { dst := some 45, op := Op.indexAddr 24 (Operand.tmp 43) (Operand.tmp 44), type := 0, pos := "law.go:97", after := #[{ on := 1, ground := Ground.data }, { on := 2, ground := Ground.data }], guard := none }) (v := .pointer (some ⟨b7, o7 + len0 * 8, none⟩)) rfl (by kernel_rfl) (by kernel_rfl) (by kernel_rfl) (fun _ _ _ h => h) (Or.inl ⟨by rfl, fun w hSw => by go_simp⟩) (by assumption) ?_
          try simp only [Act.put, List.setIfInBounds_toArray, List.set_cons_zero, List.set_cons_succ]
          refine wpAnyH_take (i := 4) (oi := { dst := some 46, op := Op.load 34 (Operand.tmp 45), type := 34, pos := "law.go:97", after := #[{ on := 3, ground := Ground.data }], guard := none }) (v := .agg #[.int .u64 (ea.no : Nat), .int .u64 (ea.time : Nat), .bool ea.gone, .int .u32 (ea.addr : Nat), .int .u8 (ea.len : Nat), .int .i64 (ea.via : Nat), .int .u16 (ea.metric : Nat), .int .u16 (ea.seq : Nat)]) rfl (by kernel_rfl) (by kernel_rfl) (by kernel_rfl) (fun _ _ _ h => h) (Or.inl ⟨by rfl, fun w hSw => by obtain ⟨k0, k1, k2, k3, k4, k5, k6, k7⟩ := H7.out.1.keep (hSw.block b7 H7.out.2); go_simp⟩) (by assumption) ?_
          try simp only [Act.put, List.setIfInBounds_toArray, List.set_cons_zero, List.set_cons_succ]
          refine wpAnyH_take (i := 7) (oi := { dst := some 49, op := Op.load 34 (Operand.tmp 10), type := 34, pos := "law.go:97", after := #[], guard := none }) (v := .agg #[.int .u64 (last.no : Nat), .int .u64 (last.time : Nat), .bool last.gone, .int .u32 (last.addr : Nat), .int .u8 (last.len : Nat), .int .i64 (last.via : Nat), .int .u16 (last.metric : Nat), .int .u16 (last.seq : Nat)]) rfl (by kernel_rfl) (by kernel_rfl) (by kernel_rfl) (fun _ _ _ h => h) (Or.inl ⟨by rfl, fun w hSw => by obtain ⟨k0, k1, k2, k3, k4, k5, k6, k7⟩ := row8 ((hSw.block _ (Array.getElem?_eq_some_iff.1 HLR.out).1).trans HLR.out); go_simp⟩) (by assumption) ?_
          try simp only [Act.put, List.setIfInBounds_toArray, List.set_cons_zero, List.set_cons_succ]
          refine wpAnyH_take (i := 8) (oi := { dst := some 50, op := Op.move (Operand.tmp 8), type := 24, pos := "law.go:97", after := #[], guard := none }) (v := .slice (some ⟨b8, o8, none⟩) N c8) rfl (by kernel_rfl) (by kernel_rfl) (by kernel_rfl) (fun _ _ _ h => h) (Or.inl ⟨by rfl, fun w hSw => by go_simp⟩) (by assumption) ?_
          try simp only [Act.put, List.setIfInBounds_toArray, List.set_cons_zero, List.set_cons_succ]
          refine wpAnyH_take (i := 9) (oi := { dst := some 51, op := Op.move (Operand.tmp 9), type := 3, pos := "law.go:97", after := #[], guard := none }) (v := .int .i64 (len0 : Int)) rfl (by kernel_rfl) (by kernel_rfl) (by kernel_rfl) (fun _ _ _ h => h) (Or.inl ⟨by rfl, fun w hSw => by go_simp⟩) (by assumption) ?_
          try simp only [Act.put, List.setIfInBounds_toArray, List.set_cons_zero, List.set_cons_succ]
          refine wpAnyH_take (i := 10) (oi := { dst := some 52, op := Op.indexAddr 24 (Operand.tmp 50) (Operand.tmp 51), type := 0, pos := "law.go:97", after := #[{ on := 8, ground := Ground.data }, { on := 9, ground := Ground.data }], guard := none }) (v := .pointer (some ⟨b8, o8 + len0 * 8, none⟩)) rfl (by kernel_rfl) (by kernel_rfl) (by kernel_rfl) (fun _ _ _ h => h) (Or.inl ⟨by rfl, fun w hSw => by go_simp⟩) (by assumption) ?_
          try simp only [Act.put, List.setIfInBounds_toArray, List.set_cons_zero, List.set_cons_succ]
          refine wpAnyH_take (i := 11) (oi := { dst := some 53, op := Op.load 34 (Operand.tmp 52), type := 34, pos := "law.go:97", after := #[{ on := 10, ground := Ground.data }], guard := none }) (v := .agg #[.int .u64 (eb.no : Nat), .int .u64 (eb.time : Nat), .bool eb.gone, .int .u32 (eb.addr : Nat), .int .u8 (eb.len : Nat), .int .i64 (eb.via : Nat), .int .u16 (eb.metric : Nat), .int .u16 (eb.seq : Nat)]) rfl (by kernel_rfl) (by kernel_rfl) (by kernel_rfl) (fun _ _ _ h => h) (Or.inl ⟨by rfl, fun w hSw => by obtain ⟨k0, k1, k2, k3, k4, k5, k6, k7⟩ := H8.out.1.keep (hSw.block b8 H8.out.2); go_simp⟩) (by assumption) ?_
          try simp only [Act.put, List.setIfInBounds_toArray, List.set_cons_zero, List.set_cons_succ]
          refine wpAnyH_take (i := 15) (oi := { dst := some 57, op := Op.move (Operand.tmp 7), type := 24, pos := "law.go:97", after := #[], guard := none }) (v := .slice (some ⟨b7, o7, none⟩) N c7) rfl (by kernel_rfl) (by kernel_rfl) (by kernel_rfl) (fun _ _ _ h => h) (Or.inl ⟨by rfl, fun w hSw => by go_simp⟩) (by assumption) ?_
          try simp only [Act.put, List.setIfInBounds_toArray, List.set_cons_zero, List.set_cons_succ]
          refine wpAnyH_take (i := 16) (oi := { dst := some 58, op := Op.move (Operand.tmp 9), type := 3, pos := "law.go:97", after := #[], guard := none }) (v := .int .i64 (len0 : Int)) rfl (by kernel_rfl) (by kernel_rfl) (by kernel_rfl) (fun _ _ _ h => h) (Or.inl ⟨by rfl, fun w hSw => by go_simp⟩) (by assumption) ?_
          try simp only [Act.put, List.setIfInBounds_toArray, List.set_cons_zero, List.set_cons_succ]
          refine wpAnyH_take (i := 17) (oi := { dst := some 59, op := Op.indexAddr 24 (Operand.tmp 57) (Operand.tmp 58), type := 0, pos := "law.go:97", after := #[{ on := 15, ground := Ground.data }, { on := 16, ground := Ground.data }], guard := none }) (v := .pointer (some ⟨b7, o7 + len0 * 8, none⟩)) rfl (by kernel_rfl) (by kernel_rfl) (by kernel_rfl) (fun _ _ _ h => h) (Or.inl ⟨by rfl, fun w hSw => by go_simp⟩) (by assumption) ?_
          try simp only [Act.put, List.setIfInBounds_toArray, List.set_cons_zero, List.set_cons_succ]
          refine wpAnyH_take (i := 18) (oi := { dst := some 60, op := Op.load 34 (Operand.tmp 59), type := 34, pos := "law.go:97", after := #[{ on := 17, ground := Ground.data }], guard := none }) (v := .agg #[.int .u64 (ea.no : Nat), .int .u64 (ea.time : Nat), .bool ea.gone, .int .u32 (ea.addr : Nat), .int .u8 (ea.len : Nat), .int .i64 (ea.via : Nat), .int .u16 (ea.metric : Nat), .int .u16 (ea.seq : Nat)]) rfl (by kernel_rfl) (by kernel_rfl) (by kernel_rfl) (fun _ _ _ h => h) (Or.inl ⟨by rfl, fun w hSw => by obtain ⟨k0, k1, k2, k3, k4, k5, k6, k7⟩ := H7.out.1.keep (hSw.block b7 H7.out.2); go_simp⟩) (by assumption) ?_
          try simp only [Act.put, List.setIfInBounds_toArray, List.set_cons_zero, List.set_cons_succ]
          refine wpAnyH_take (i := 19) (oi := { dst := some 61, op := Op.move (Operand.tmp 8), type := 24, pos := "law.go:97", after := #[], guard := none }) (v := .slice (some ⟨b8, o8, none⟩) N c8) rfl (by kernel_rfl) (by kernel_rfl) (by kernel_rfl) (fun _ _ _ h => h) (Or.inl ⟨by rfl, fun w hSw => by go_simp⟩) (by assumption) ?_
          try simp only [Act.put, List.setIfInBounds_toArray, List.set_cons_zero, List.set_cons_succ]
          refine wpAnyH_take (i := 20) (oi := { dst := some 62, op := Op.move (Operand.tmp 9), type := 3, pos := "law.go:97", after := #[], guard := none }) (v := .int .i64 (len0 : Int)) rfl (by kernel_rfl) (by kernel_rfl) (by kernel_rfl) (fun _ _ _ h => h) (Or.inl ⟨by rfl, fun w hSw => by go_simp⟩) (by assumption) ?_
          try simp only [Act.put, List.setIfInBounds_toArray, List.set_cons_zero, List.set_cons_succ]
          refine wpAnyH_take (i := 21) (oi := { dst := some 63, op := Op.indexAddr 24 (Operand.tmp 61) (Operand.tmp 62), type := 0, pos := "law.go:97", after := #[{ on := 19, ground := Ground.data }, { on := 20, ground := Ground.data }], guard := none }) (v := .pointer (some ⟨b8, o8 + len0 * 8, none⟩)) rfl (by kernel_rfl) (by kernel_rfl) (by kernel_rfl) (fun _ _ _ h => h) (Or.inl ⟨by rfl, fun w hSw => by go_simp⟩) (by assumption) ?_
          try simp only [Act.put, List.setIfInBounds_toArray, List.set_cons_zero, List.set_cons_succ]
          refine wpAnyH_take (i := 22) (oi := { dst := some 64, op := Op.load 34 (Operand.tmp 63), type := 34, pos := "law.go:97", after := #[{ on := 21, ground := Ground.data }], guard := none }) (v := .agg #[.int .u64 (eb.no : Nat), .int .u64 (eb.time : Nat), .bool eb.gone, .int .u32 (eb.addr : Nat), .int .u8 (eb.len : Nat), .int .i64 (eb.via : Nat), .int .u16 (eb.metric : Nat), .int .u16 (eb.seq : Nat)]) rfl (by kernel_rfl) (by kernel_rfl) (by kernel_rfl) (fun _ _ _ h => h) (Or.inl ⟨by rfl, fun w hSw => by obtain ⟨k0, k1, k2, k3, k4, k5, k6, k7⟩ := H8.out.1.keep (hSw.block b8 H8.out.2); go_simp⟩) (by assumption) ?_
          try simp only [Act.put, List.setIfInBounds_toArray, List.set_cons_zero, List.set_cons_succ]
          refine wpAnyH_take (i := 23) (oi := { dst := some 65, op := Op.binOp BinOp.eql 34 (Operand.tmp 60) (Operand.tmp 64) 34, type := 4, pos := "law.go:97", after := #[{ on := 18, ground := Ground.data }, { on := 22, ground := Ground.data }], guard := none }) (v := .bool false) rfl (by kernel_rfl) (by kernel_rfl) (by kernel_rfl) (fun _ _ _ h => h) (Or.inl ⟨by rfl, fun w hSw => by have hnn := HNE.out; go_simp; intro h1 h2 h3 h4 h5 h6 h7 h8; exact hnn ⟨by omega, by omega, h3, by omega, by omega, by omega, by omega, by omega⟩⟩) (by assumption) ?_
          try simp only [Act.put, List.setIfInBounds_toArray, List.set_cons_zero, List.set_cons_succ]
          refine wpAnyH_ready (rs := [5]) (by kernel_rfl) (by simp) ?_
          refine AllReadyH.cons (o := { dst := some 47, op := Op.call { callee := Callee.value (Operand.func 9), args := #[Operand.tmp 42, Operand.tmp 46], argTypes := #[34, 34] }, type := 35, pos := "law.go:97", after := #[{ on := 0, ground := Ground.data }, { on := 4, ground := Ground.data }], guard := none }) rfl (fun K hK => ?_) AllReadyH.nil
          go_simp
          with_reducible refine (cE1 _).mono ?_
          rintro e w5 ⟨v5, rfl, O5, B5⟩
          obtain ⟨A5, c5, hv5, R5, _, _⟩ := O5.form
          subst hv5
          have D5 := Below.refl w5.heap.size w5
          clear O5
          refine hK.out _ _ (hHeld.trans (B5.mono hHeld.size)) (fun hHeld => ?_)
          clear hK K
          try simp only [Act.put, List.setIfInBounds_toArray, List.set_cons_zero, List.set_cons_succ]
          refine wpAnyH_ready (rs := [6, 12]) (by kernel_rfl) (by simp) ?_
          refine (AllReadyH.cons (o := { dst := some 48, op := Op.convert 35 9 (Operand.tmp 47), type := 9, pos := "law.go:97", after := #[{ on := 5, ground := Ground.data }], guard := none }) rfl (fun K hK => ?_) (AllReadyH.cons (o := { dst := some 54, op := Op.call { callee := Callee.value (Operand.func 9), args := #[Operand.tmp 49, Operand.tmp 53], argTypes := #[34, 34] }, type := 35, pos := "law.go:97", after := #[{ on := 7, ground := Ground.data }, { on := 11, ground := Ground.data }, { on := 5, ground := Ground.chain }], guard := none }) rfl (fun K hK => ?_) AllReadyH.nil))
          · have cv := conv_any (R5.below D5 (Nat.le_refl _)) X.length c5 rfl
            go_simp
            refine hK.out _ _ (hHeld) (fun hHeld => ?_)
            clear hK K
            try simp only [Act.put, List.setIfInBounds_toArray, List.set_cons_zero, List.set_cons_succ]
            clear cv
            refine wpAnyH_ready (rs := [12]) (by kernel_rfl) (by simp) ?_
            refine AllReadyH.cons (o := { dst := some 54, op := Op.call { callee := Callee.value (Operand.func 9), args := #[Operand.tmp 49, Operand.tmp 53], argTypes := #[34, 34] }, type := 35, pos := "law.go:97", after := #[{ on := 7, ground := Ground.data }, { on := 11, ground := Ground.data }, { on := 5, ground := Ground.chain }], guard := none }) rfl (fun K hK => ?_) AllReadyH.nil
            go_simp
            with_reducible refine (cE2 _).mono ?_
            rintro e w12 ⟨v12, rfl, O12, B12⟩
            obtain ⟨A12, c12, hv12, R12, _, _⟩ := O12.form
            subst hv12
            have D5 := D5.trans (B12.mono D5.size)
            clear O12
            refine hK.out _ _ (hHeld.trans (B12.mono hHeld.size)) (fun hHeld => ?_)
            clear hK K
            try simp only [Act.put, List.setIfInBounds_toArray, List.set_cons_zero, List.set_cons_succ]
            refine wpAnyH_ready (rs := [13]) (by kernel_rfl) (by simp) ?_
            refine AllReadyH.cons (o := { dst := some 55, op := Op.convert 35 9 (Operand.tmp 54), type := 9, pos := "law.go:97", after := #[{ on := 12, ground := Ground.data }], guard := none }) rfl (fun K hK => ?_) AllReadyH.nil
            have cv := conv_any R12 Y.length c12 rfl
            go_simp
            refine hK.out _ _ (hHeld) (fun hHeld => ?_)
            clear hK K
            try simp only [Act.put, List.setIfInBounds_toArray, List.set_cons_zero, List.set_cons_succ]
            clear cv
            have es : ((str X).toList == (str Y).toList) = false := HES.out
            generalize str X = sX at *
            generalize str Y = sY at *
            refine wpAnyH_ready (rs := [14]) (by kernel_rfl) (by simp) ?_
            refine AllReadyH.cons (o := { dst := some 56, op := Op.binOp BinOp.eql 9 (Operand.tmp 48) (Operand.tmp 55) 9, type := 4, pos := "law.go:97", after := #[{ on := 6, ground := Ground.data }, { on := 13, ground := Ground.data }], guard := none }) rfl (fun K hK => ?_) AllReadyH.nil
            go_simp
            refine hK.out _ _ (hHeld) (fun hHeld => ?_)
            clear hK K
            try simp only [Act.put, List.setIfInBounds_toArray, List.set_cons_zero, List.set_cons_succ]
            refine wpAnyH_ready (rs := [24]) (by kernel_rfl) (by simp) ?_
            refine AllReadyH.cons (o := { dst := some 66, op := Op.binOp BinOp.eql 4 (Operand.tmp 56) (Operand.tmp 65) 4, type := 4, pos := "law.go:97", after := #[{ on := 14, ground := Ground.data }, { on := 23, ground := Ground.data }], guard := none }) rfl (fun K hK => ?_) AllReadyH.nil
            go_simp
            refine hK.out _ _ (hHeld) (fun hHeld => ?_)
            clear hK K
            try simp only [Act.put, List.setIfInBounds_toArray, List.set_cons_zero, List.set_cons_succ]
            refine wpAnyH_ready (rs := [25]) (by kernel_rfl) (by simp) ?_
            refine AllReadyH.cons (o := { dst := some 6, op := Op.assign (Operand.tmp 66), type := 4, pos := "law.go:97", after := #[{ on := 24, ground := Ground.data }, { on := 12, ground := Ground.chain }, { on := 0, ground := Ground.phase }, { on := 1, ground := Ground.phase }, { on := 2, ground := Ground.phase }, { on := 3, ground := Ground.phase }, { on := 4, ground := Ground.phase }, { on := 5, ground := Ground.phase }, { on := 6, ground := Ground.phase }, { on := 7, ground := Ground.phase }, { on := 8, ground := Ground.phase }, { on := 9, ground := Ground.phase }, { on := 10, ground := Ground.phase }, { on := 11, ground := Ground.phase }, { on := 12, ground := Ground.phase }, { on := 13, ground := Ground.phase }, { on := 14, ground := Ground.phase }, { on := 15, ground := Ground.phase }, { on := 16, ground := Ground.phase }, { on := 17, ground := Ground.phase }, { on := 18, ground := Ground.phase }, { on := 19, ground := Ground.phase }, { on := 20, ground := Ground.phase }, { on := 21, ground := Ground.phase }, { on := 22, ground := Ground.phase }, { on := 23, ground := Ground.phase }, { on := 24, ground := Ground.phase }], guard := none }) rfl (fun K hK => ?_) AllReadyH.nil
            go_simp
            refine hK.out _ _ (hHeld) (fun hHeld => ?_)
            clear hK K
            try simp only [Act.put, List.setIfInBounds_toArray, List.set_cons_zero, List.set_cons_succ]
            refine wpAnyH_done (by kernel_rfl) ?_ _
            try unfold NoPanic
            go_wp2
            go_ret
            exact ⟨by first | rfl | exact ret_bool (by simp), HBW.out.trans (hHeld.mono HBW.out.size)⟩
          · go_simp
            with_reducible refine (cE2 _).mono ?_
            rintro e w12 ⟨v12, rfl, O12, B12⟩
            obtain ⟨A12, c12, hv12, R12, _, _⟩ := O12.form
            subst hv12
            have D5 := D5.trans (B12.mono D5.size)
            clear O12
            refine hK.out _ _ (hHeld.trans (B12.mono hHeld.size)) (fun hHeld => ?_)
            clear hK K
            try simp only [Act.put, List.setIfInBounds_toArray, List.set_cons_zero, List.set_cons_succ]
            refine wpAnyH_ready (rs := [6, 13]) (by kernel_rfl) (by simp) ?_
            refine (AllReadyH.cons (o := { dst := some 48, op := Op.convert 35 9 (Operand.tmp 47), type := 9, pos := "law.go:97", after := #[{ on := 5, ground := Ground.data }], guard := none }) rfl (fun K hK => ?_) (AllReadyH.cons (o := { dst := some 55, op := Op.convert 35 9 (Operand.tmp 54), type := 9, pos := "law.go:97", after := #[{ on := 12, ground := Ground.data }], guard := none }) rfl (fun K hK => ?_) AllReadyH.nil))
            · have cv := conv_any (R5.below D5 (Nat.le_refl _)) X.length c5 rfl
              go_simp
              refine hK.out _ _ (hHeld) (fun hHeld => ?_)
              clear hK K
              try simp only [Act.put, List.setIfInBounds_toArray, List.set_cons_zero, List.set_cons_succ]
              clear cv
              refine wpAnyH_ready (rs := [13]) (by kernel_rfl) (by simp) ?_
              refine AllReadyH.cons (o := { dst := some 55, op := Op.convert 35 9 (Operand.tmp 54), type := 9, pos := "law.go:97", after := #[{ on := 12, ground := Ground.data }], guard := none }) rfl (fun K hK => ?_) AllReadyH.nil
              have cv := conv_any R12 Y.length c12 rfl
              go_simp
              refine hK.out _ _ (hHeld) (fun hHeld => ?_)
              clear hK K
              try simp only [Act.put, List.setIfInBounds_toArray, List.set_cons_zero, List.set_cons_succ]
              clear cv
              have es : ((str X).toList == (str Y).toList) = false := HES.out
              generalize str X = sX at *
              generalize str Y = sY at *
              refine wpAnyH_ready (rs := [14]) (by kernel_rfl) (by simp) ?_
              refine AllReadyH.cons (o := { dst := some 56, op := Op.binOp BinOp.eql 9 (Operand.tmp 48) (Operand.tmp 55) 9, type := 4, pos := "law.go:97", after := #[{ on := 6, ground := Ground.data }, { on := 13, ground := Ground.data }], guard := none }) rfl (fun K hK => ?_) AllReadyH.nil
              go_simp
              refine hK.out _ _ (hHeld) (fun hHeld => ?_)
              clear hK K
              try simp only [Act.put, List.setIfInBounds_toArray, List.set_cons_zero, List.set_cons_succ]
              refine wpAnyH_ready (rs := [24]) (by kernel_rfl) (by simp) ?_
              refine AllReadyH.cons (o := { dst := some 66, op := Op.binOp BinOp.eql 4 (Operand.tmp 56) (Operand.tmp 65) 4, type := 4, pos := "law.go:97", after := #[{ on := 14, ground := Ground.data }, { on := 23, ground := Ground.data }], guard := none }) rfl (fun K hK => ?_) AllReadyH.nil
              go_simp
              refine hK.out _ _ (hHeld) (fun hHeld => ?_)
              clear hK K
              try simp only [Act.put, List.setIfInBounds_toArray, List.set_cons_zero, List.set_cons_succ]
              refine wpAnyH_ready (rs := [25]) (by kernel_rfl) (by simp) ?_
              refine AllReadyH.cons (o := { dst := some 6, op := Op.assign (Operand.tmp 66), type := 4, pos := "law.go:97", after := #[{ on := 24, ground := Ground.data }, { on := 12, ground := Ground.chain }, { on := 0, ground := Ground.phase }, { on := 1, ground := Ground.phase }, { on := 2, ground := Ground.phase }, { on := 3, ground := Ground.phase }, { on := 4, ground := Ground.phase }, { on := 5, ground := Ground.phase }, { on := 6, ground := Ground.phase }, { on := 7, ground := Ground.phase }, { on := 8, ground := Ground.phase }, { on := 9, ground := Ground.phase }, { on := 10, ground := Ground.phase }, { on := 11, ground := Ground.phase }, { on := 12, ground := Ground.phase }, { on := 13, ground := Ground.phase }, { on := 14, ground := Ground.phase }, { on := 15, ground := Ground.phase }, { on := 16, ground := Ground.phase }, { on := 17, ground := Ground.phase }, { on := 18, ground := Ground.phase }, { on := 19, ground := Ground.phase }, { on := 20, ground := Ground.phase }, { on := 21, ground := Ground.phase }, { on := 22, ground := Ground.phase }, { on := 23, ground := Ground.phase }, { on := 24, ground := Ground.phase }], guard := none }) rfl (fun K hK => ?_) AllReadyH.nil
              go_simp
              refine hK.out _ _ (hHeld) (fun hHeld => ?_)
              clear hK K
              try simp only [Act.put, List.setIfInBounds_toArray, List.set_cons_zero, List.set_cons_succ]
              refine wpAnyH_done (by kernel_rfl) ?_ _
              try unfold NoPanic
              go_wp2
              go_ret
              exact ⟨by first | rfl | exact ret_bool (by simp), HBW.out.trans (hHeld.mono HBW.out.size)⟩
            · have cv := conv_any R12 Y.length c12 rfl
              go_simp
              refine hK.out _ _ (hHeld) (fun hHeld => ?_)
              clear hK K
              try simp only [Act.put, List.setIfInBounds_toArray, List.set_cons_zero, List.set_cons_succ]
              clear cv
              refine wpAnyH_ready (rs := [6]) (by kernel_rfl) (by simp) ?_
              refine AllReadyH.cons (o := { dst := some 48, op := Op.convert 35 9 (Operand.tmp 47), type := 9, pos := "law.go:97", after := #[{ on := 5, ground := Ground.data }], guard := none }) rfl (fun K hK => ?_) AllReadyH.nil
              have cv := conv_any (R5.below D5 (Nat.le_refl _)) X.length c5 rfl
              go_simp
              refine hK.out _ _ (hHeld) (fun hHeld => ?_)
              clear hK K
              try simp only [Act.put, List.setIfInBounds_toArray, List.set_cons_zero, List.set_cons_succ]
              clear cv
              have es : ((str X).toList == (str Y).toList) = false := HES.out
              generalize str X = sX at *
              generalize str Y = sY at *
              refine wpAnyH_ready (rs := [14]) (by kernel_rfl) (by simp) ?_
              refine AllReadyH.cons (o := { dst := some 56, op := Op.binOp BinOp.eql 9 (Operand.tmp 48) (Operand.tmp 55) 9, type := 4, pos := "law.go:97", after := #[{ on := 6, ground := Ground.data }, { on := 13, ground := Ground.data }], guard := none }) rfl (fun K hK => ?_) AllReadyH.nil
              go_simp
              refine hK.out _ _ (hHeld) (fun hHeld => ?_)
              clear hK K
              try simp only [Act.put, List.setIfInBounds_toArray, List.set_cons_zero, List.set_cons_succ]
              refine wpAnyH_ready (rs := [24]) (by kernel_rfl) (by simp) ?_
              refine AllReadyH.cons (o := { dst := some 66, op := Op.binOp BinOp.eql 4 (Operand.tmp 56) (Operand.tmp 65) 4, type := 4, pos := "law.go:97", after := #[{ on := 14, ground := Ground.data }, { on := 23, ground := Ground.data }], guard := none }) rfl (fun K hK => ?_) AllReadyH.nil
              go_simp
              refine hK.out _ _ (hHeld) (fun hHeld => ?_)
              clear hK K
              try simp only [Act.put, List.setIfInBounds_toArray, List.set_cons_zero, List.set_cons_succ]
              refine wpAnyH_ready (rs := [25]) (by kernel_rfl) (by simp) ?_
              refine AllReadyH.cons (o := { dst := some 6, op := Op.assign (Operand.tmp 66), type := 4, pos := "law.go:97", after := #[{ on := 24, ground := Ground.data }, { on := 12, ground := Ground.chain }, { on := 0, ground := Ground.phase }, { on := 1, ground := Ground.phase }, { on := 2, ground := Ground.phase }, { on := 3, ground := Ground.phase }, { on := 4, ground := Ground.phase }, { on := 5, ground := Ground.phase }, { on := 6, ground := Ground.phase }, { on := 7, ground := Ground.phase }, { on := 8, ground := Ground.phase }, { on := 9, ground := Ground.phase }, { on := 10, ground := Ground.phase }, { on := 11, ground := Ground.phase }, { on := 12, ground := Ground.phase }, { on := 13, ground := Ground.phase }, { on := 14, ground := Ground.phase }, { on := 15, ground := Ground.phase }, { on := 16, ground := Ground.phase }, { on := 17, ground := Ground.phase }, { on := 18, ground := Ground.phase }, { on := 19, ground := Ground.phase }, { on := 20, ground := Ground.phase }, { on := 21, ground := Ground.phase }, { on := 22, ground := Ground.phase }, { on := 23, ground := Ground.phase }, { on := 24, ground := Ground.phase }], guard := none }) rfl (fun K hK => ?_) AllReadyH.nil
              go_simp
              refine hK.out _ _ (hHeld) (fun hHeld => ?_)
              clear hK K
              try simp only [Act.put, List.setIfInBounds_toArray, List.set_cons_zero, List.set_cons_succ]
              refine wpAnyH_done (by kernel_rfl) ?_ _
              try unfold NoPanic
              go_wp2
              go_ret
              exact ⟨by first | rfl | exact ret_bool (by simp), HBW.out.trans (hHeld.mono HBW.out.size)⟩

set_option maxRecDepth 100000 in
theorem lifted (os : Os) (started : os.Started) (H : Type) (enc : TypeId × Value → H) :
    ReturnsInHanded {} Try.checked os 5 .any (Rows.changeApartSpec.pre6 enc Try.prog Try.f5 Rows.changeApartRow.domain false) (Rows.changeApartSpec.post enc Try.prog Try.f5 false true false false) := by
  refine returnsInHanded_of_change (C := Try.checked) own started (by kernel_rfl) Try.func5
    (ChangeSpec.witness6 (enc := enc) (C := Try.checked) false ⟨#[], #[.slice none 0 0, .agg #[.int .u8 0, .int .u8 0, .int .u8 0, .int .u8 0, .int .u8 0], .agg #[.int .u8 0, .int .u8 0, .int .u8 0, .int .u8 0, .int .u8 0]], []⟩ 8 (by kernel_rfl) (by kernel_rfl) (by kernel_rfl) (by kernel_rfl)) ?_
  intro W base args ds gs before hval0 hW hcnd _
  have hval : ∀ (j : Nat) t v, Try.f5.params[j]? = some t → args[j]? = some v → Value.okWide Try.prog W .any base t v := hval0
  have hW' := hW
  obtain ⟨p, q, hA0, hV, rfl, hfz, hnd⟩ := hW
  have hA : DataW.TrodAll enc Try.prog W 0 (fun _ => true) true Try.f5.params.toList args.toList ds p := hA0
  rw [Try.params5] at hA hval
  obtain ⟨v0, vs0, d0, ds0, p0, q0, hargs, rfl, rfl, h0, r0⟩ := trodAll_cons hA
  obtain ⟨v1, vs1, d1, ds1, p1, q1, rfl, rfl, rfl, h1, r1⟩ := trodAll_cons r0
  obtain ⟨v2, vs2, d2, ds2, p2, q2, rfl, rfl, rfl, h2, r2⟩ := trodAll_cons r1
  obtain ⟨rfl, rfl, rfl⟩ := trodAll_nil r2
  obtain rfl : args = #[v0, v1, v2] := by cases args; simp_all
  obtain ⟨rfl, rfl⟩ := trodVars_none hV
  obtain ⟨a0, len0, cap0, rfl⟩ := okWide_slice Try.underlying22 (hval 0 22 v0 rfl rfl)
  have k0 := h0
  have lt0 : ∀ x ∈ p0, x.block < W.heap.size := by obtain ⟨m, hm⟩ := k0; exact DataW.trod_lt m _ _ _ hm
  obtain ⟨z0, w0⟩ : ∃ zs, IsActs W a0 len0 cap0 zs := by
    obtain ⟨fuel, hf⟩ := h0
    obtain ⟨a, l, c, ds, hcs, hds⟩ := acts_of hf
    simp [Value.cells] at hcs
    obtain ⟨rfl, rfl, rfl⟩ := hcs
    exact ⟨ds, hds⟩
  have k1 := h1
  have lt1 : ∀ x ∈ p1, x.block < W.heap.size := by obtain ⟨m, hm⟩ := k1; exact DataW.trod_lt m _ _ _ hm
  obtain ⟨x1, w1, rfl⟩ := act_val (hval 1 44 v1 rfl rfl) h1
  have k2 := h2
  have lt2 : ∀ x ∈ p2, x.block < W.heap.size := by obtain ⟨m, hm⟩ := k2; exact DataW.trod_lt m _ _ _ hm
  obtain ⟨x2, w2, rfl⟩ := act_val (hval 2 44 v2 rfl rfl) h2
  clear hA0 hval0
  refine (walk a0 len0 cap0 z0 x1 x2 W w0 w1 w2).mono fun e W' ⟨he, bel⟩ => ?_
  subst he
  exact ⟨_, rfl, _, _, _, [], _, [], hW', trodAll_mk1 (shut_bool Try.underlying4 _), (trodAll_cons_mk (Below.trod laidOut (by kernel_rfl) (of_decide_eq_true (by kernel_rfl)) k0 bel lt0) (trodAll_cons_mk (Below.trod laidOut (by kernel_rfl) (of_decide_eq_true (by kernel_rfl)) k1 bel lt1) (trodAll_cons_mk (Below.trod laidOut (by kernel_rfl) (of_decide_eq_true (by kernel_rfl)) k2 bel lt2) trodAll_mk0))), rfl, bel.frame _, fun h => by cases h⟩

theorem over : Rows.changeApartRow.holds Try.pinned (OpenSpec.ofChange Rows.changeApartSpec) :=
  OpenClaim.holds_of_wide 5 Try.f5 rfl rfl rfl rfl rfl rfl rfl ⟨rfl, rfl, rfl, rfl, rfl⟩ rfl rfl rfl rfl rfl (by kernel_rfl) Try.func5 (by kernel_rfl)
    (of_decide_eq_true (by kernel_rfl)) (by unfold Func.isWrapper; first | (rw [if_pos (by decide +kernel)]; kernel_rfl) | (rw [if_neg (by decide +kernel)]; exact ⟨rfl, rfl⟩))
    (fun os started H enc _ => lifted os started H enc)

theorem proved : Rows.ChangeApartSaid := over
#print axioms proved
end Go.Proofs.Ytmkclggnbnomhaa.changeApart
