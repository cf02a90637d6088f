/- The law's bytes of a record. told, where nothing is folded. Base, Full, endedBy. -/
import Derived.Test.YtdbhgkbmbbjpdaaGreatDoorOg
namespace Go.Proofs.YtdbhgkbmbbjpdaaGreatDoor.Chr
open Go.ChangeShapes Go.WideShapes Go.ChangeAt Go.RowKit
open Shf (S str)
open Coin (Rd Row Own sz coin got Pur takeV endV CoinSaid)
open Frm (pack err size kind cnt body noItem itemV OneSaid)
set_option maxRecDepth 8000
set_option linter.unusedVariables false
open Shf (Tag Ext Rep M RdN get Fine)
def byJ (n k j : Nat) : S := (List.range k).map fun i => if i < j then UInt8.ofNat (n + i) else 0
def byL (n : Nat) : S := byJ n (n % 17) (n % 17)
theorem byJ_len (n k j : Nat) : (byJ n k j).length = k := by unfold byJ; simp
theorem byL_len (n : Nat) : (byL n).length ≤ 16 := by unfold byL; rw [byJ_len]; omega
theorem byJ_zero (n k : Nat) : byJ n k 0 = List.replicate k 0 := by
  unfold byJ
  apply List.ext_getElem <;> simp
theorem byJ_set (n k j : Nat) (hj : j < k) : (byJ n k j).set j (UInt8.ofNat (n + j)) = byJ n k (j + 1) := by
  unfold byJ
  apply List.ext_getElem
  · simp
  · intro i h1 h2
    simp only [List.length_set, List.length_map, List.length_range] at h1
    rw [List.getElem_set]
    simp only [List.getElem_map, List.getElem_range]
    by_cases h : j = i
    · subst h
      simp
    · rw [if_neg h]
      by_cases h3 : i < j
      · rw [if_pos h3, if_pos (by omega)]
      · rw [if_neg h3, if_neg (by omega)]
theorem row_set {w : World} {g j : Nat} {l : S} (h : Row w g l) (hj : j < l.length) (b : UInt8) : Row (w.setCell ⟨g, j, none⟩ (Coin.b8 b)) g (l.set j b) := by
  have e := heap_setCell_same w g j _ 5 (Coin.b8 b) h
  show _ = _
  rw [e]
  congr 2
  apply Array.ext'
  rw [Array.toList_setIfInBounds]
  simp [List.map_set]
set_option maxHeartbeats 2000000 in
theorem by_any (w : World) (n : Nat) (hn : n < 256) : Calls Tryz.prog 22 #[.int .u8 (n : Int)] w fun e w' => ∃ g k, e = .returned (.slice (some ⟨g, 0, none⟩) k k) ∧ k = (byL n).length ∧ Row w' g (byL n) ∧ w.heap.size ≤ g ∧ Below w.heap.size w w' := by
  obtain ⟨k, hk⟩ : ∃ k, k = n % 17 := ⟨_, rfl⟩
  have hk17 : k < 17 := by omega
  have hrem : (n : Int).tmod 17 = (k : Int) := by rw [hk, Int.tmod_eq_emod_of_nonneg (by omega)]; omega
  have hmk : ∀ w : World, (Instr.makeSlice 30 (.int .u8 (k : Int)) (.int .u8 (k : Int))).run Tryz.prog w = .ok (.slice (some ⟨w.heap.size, 0, none⟩) k k) (w.alloc (.cells (madeCells #[.int .u8 0] k) 5)) := fun w => run_make_row' (P := Tryz.prog) 30 5 (.int .u8 0) 1 Tryz.underlying30 Coin.info5 rfl .u8 .u8 k (by omega) (by omega) w
  have N1 : Row (w.alloc (.cells (madeCells #[.int .u8 0] k) 5)) w.heap.size (byJ n k 0) := by rw [byJ_zero]; exact Coin.Row.new w k
  have B1 : Below w.heap.size w (w.alloc (.cells (madeCells #[.int .u8 0] k) 5)) := (Below.refl _ _).alloc (Nat.le_refl _) _
  obtain ⟨g, hg⟩ : ∃ g, g = w.heap.size := ⟨_, rfl⟩
  rw [← hg] at N1
  have HS0 : Hid (Row (w.alloc (.cells (madeCells #[.int .u8 0] k) 5)) g (byJ n k 0) ∧ Below w.heap.size w (w.alloc (.cells (madeCells #[.int .u8 0] k) 5))) := ⟨N1, B1⟩
  have HK := Lib.hid (And.intro hk (And.intro hg hk17))
  clear N1 B1 hk
  go_enter Tryz.func22, Tryz.ntmps22
  go_upto_region 2 with (fail)
  rw [← hg]
  clear hg hmk hrem
  go_wp2
  go_loopw [4] (fun i wr => ∃ j : Nat, i = .int .i64 (j : Int) ∧ j ≤ k ∧ Hid (Row wr g (byJ n k j) ∧ Below w.heap.size w wr)) (fun i _ => k - (intOf i).toNat)
  case atStart => exact ⟨0, rfl, Nat.zero_le _, HS0⟩
  case round =>
    clear HS0
    obtain ⟨j, rfl, hjk, HJ⟩ := hrel
    by_cases hj : j < k
    · have hj' : (j : Int) < k := by omega
      have hw1 : IntKind.i64.wrap ((j : Int) + 1) = ((j + 1 : Nat) : Int) := by rw [IntKind.wrap_i64]; omega
      have hc1 : IntKind.u8.wrap (j : Int) = (j : Int) := by rw [IntKind.wrap_u8]; omega
      have hc2 : IntKind.u8.wrap ((n : Int) + (j : Int)) = ((n + j) % 256 : Nat) := by rw [IntKind.wrap_u8]; omega
      have hl : j < (byJ n k j).length := by rw [byJ_len]; exact hj
      obtain ⟨u0, y0⟩ : ∃ u, wr.cell? ⟨g, j, none⟩ = some u := ⟨Coin.b8 (byJ n k j)[j], by
        rw [cell_of_row wr g j _ 5 (0, 0) HJ.out.1, List.getElem?_toArray, List.getElem?_map, List.getElem?_eq_getElem hl]
        rfl⟩
      have yf : wr.frozen? ⟨g, j, none⟩ = false := frozen_of_row wr g j _ 5 HJ.out.1
      have R2 := row_set HJ.out.1 hl (UInt8.ofNat (n + j))
      rw [byJ_set n k j hj] at R2
      have eb : Coin.b8 (UInt8.ofNat (n + j)) = .int .u8 (((n + j) % 256 : Nat) : Int) := by unfold Coin.b8; simp
      rw [eb] at R2
      have G := Shf.grown_set wr g j (.int .u8 (((n + j) % 256 : Nat) : Int))
      have HJ2 : Hid (Row (wr.setCell ⟨g, j, none⟩ (.int .u8 (((n + j) % 256 : Nat) : Int))) g (byJ n k (j + 1)) ∧ Below w.heap.size w (wr.setCell ⟨g, j, none⟩ (.int .u8 (((n + j) % 256 : Nat) : Int)))) := ⟨R2, Coin.below_grown HJ.out.2 G (by rw [HK.out.2.1]; exact Nat.le_refl _)⟩
      have HJK := Lib.hid hj
      clear hl R2 eb G hj hjk
      go_wp2
      go_roundw
      case rel => exact ⟨j + 1, rfl, HJK.out, HJ2⟩
      case measure => have := HJK.out; simp [intOf]; omega
    · have hj' : ¬ (j : Int) < k := by omega
      have hjk' : j = k := by omega
      have HF : Hid (Row wr g (byL n) ∧ k = (byL n).length) := ⟨by
        have h := HJ.out.1
        rw [hjk'] at h
        show Row wr g (byJ n (n % 17) (n % 17))
        rw [← HK.out.1]
        exact h, by unfold byL; rw [byJ_len, HK.out.1]⟩
      clear hjk' hj hjk
      go_wp2
      go_ret
      exact ⟨g, k, rfl, HF.out.2, HF.out.1, by rw [HK.out.2.1]; exact Nat.le_refl _, HJ.out.2⟩

set_option linter.unusedVariables false
open Shf (Tag Ext Rep M RdN get Fine)
variable {lo : Nat}
theorem cells3 {w : World} {g : Nat} {t : TypeId} {x0 x1 x2 : Value} (h : w.heap[g]? = some (.cells #[x0, x1, x2] t)) : w.cell? ⟨g, 0, none⟩ = some x0 ∧ w.cell? ⟨g, 1, none⟩ = some x1 ∧ w.cell? ⟨g, 2, none⟩ = some x2 ∧ ∀ i, w.frozen? ⟨g, i, none⟩ = false :=
  ⟨cell_of_row w g 0 _ t (0, 0) h, cell_of_row w g 1 _ t (0, 0) h, cell_of_row w g 2 _ t (0, 0) h, fun i => frozen_of_row w g i _ t h⟩
theorem head_c (w : World) (T : Nat → Tag) (p q : Nat) (c : CD) (h : CAt lo w T p q c) : Calls Tryz.prog 20 #[.pointer (some ⟨p, 0, none⟩)] w fun e w' => e = .returned (.agg #[.int .u64 (c.hF : Int), .int .u64 (c.hB : Int), .int .u64 (c.hU : Int)]) ∧ Below w.heap.size w w' := by
  obtain ⟨bA, bc, vv, gv, h⟩ := h
  have B0 : Below w.heap.size w (w.alloc (.cells #[.int .u64 0, .int .u64 0, .int .u64 0] 45)) := (Below.refl _ _).alloc (Nat.le_refl _) _
  have hr := (B0.block p (Array.getElem?_eq_some_iff.1 h.row).1).trans h.row
  unfold cC at hr
  obtain ⟨p0, p1, p2, p3, p4, p5, p6, p7, -⟩ := row8 hr
  have N1 := heap_alloc_new w (.cells #[.int .u64 (c.hF : Int), .int .u64 (c.hB : Int), .int .u64 (c.hU : Int)] 45)
  have B1 : Below w.heap.size w (w.alloc (.cells #[.int .u64 (c.hF : Int), .int .u64 (c.hB : Int), .int .u64 (c.hU : Int)] 45)) := (Below.refl _ _).alloc (Nat.le_refl _) _
  clear hr h B0
  go_enter Tryz.func20, Tryz.ntmps20
  go_wp2
  (try simp only [Exit.inBlock, Exit.then])
  refine bodyPost_ret (results_cell_row rfl _ _ w.heap.size 45 _ (0, 0) _ rfl N1 Tryz.underlying45 rfl (by kernel_rfl)) rfl ?_
  exact ⟨rfl, B1⟩
theorem base_c0 (w : World) (T : Nat → Tag) (p q : Nat) (c : CD) (h : CAt lo w T p q c) (hB : c.hB = 0) : Calls Tryz.prog 36 #[.pointer (some ⟨p, 0, none⟩)] w fun e w' => e = .returned (.tuple #[.slice none 0 0, .int .i64 2]) ∧ w = w' := by
  obtain ⟨bA, bc, vv, gv, h⟩ := h
  have hr := h.row
  unfold cC at hr
  rw [hB] at hr
  obtain ⟨p0, p1, p2, p3, p4, p5, p6, p7, -⟩ := row8 hr
  clear hr h
  go_enter Tryz.func36, Tryz.ntmps36
  go_wp2
  go_ret2
  exact ⟨rfl, rfl⟩
structure Has (c : CD) (l : S) : Prop where
  hU : c.hU = 0
  hB : c.hB = 0
  next : c.next = l.length + 1
  recs : c.recs.map (fun x => (x.k.toNat, x.p)) = l.map fun b => (107 + b.toNat % 3, byL b.toNat)
  len : l.length ≤ 900
set_option maxHeartbeats 4000000 in
theorem told0_any (w : World) (T : Nat → Tag) (p q : Nat) (c : CD) (C : CAt lo w T p q c) (hT : ∀ b, w.heap.size ≤ b → T b = .none) (hs : c.Small) (hn : c.vols.length ≤ 1000) (hi : ∀ d ∈ c.vols, d.its.length ≤ 900) (hp : ∀ d ∈ c.vols, ∀ x ∈ d.its, x.p.length ≤ 1200000) (hrl : ∀ k j d, c.vols[k]? = some d → (recK c.hU c.vols k ++ recJ c.hU d j).length ≤ 1000000)
    (l : S) (H : Has c l) (LA : Option Addr) (ln lc : Nat) (hln : ln = l.length) (hr : Rd w w.heap.size LA l) (sf : Int) :
    Calls Tryz.prog 13 #[.pointer (some ⟨p, 0, none⟩), .agg #[.slice LA ln lc, .int .i64 0, .int .i64 sf]] w fun e w' => e = .returned (.bool true) ∧ Below w.heap.size w w' := by
  have N1 := heap_alloc_new w (.cells #[.slice LA ln lc, .int .i64 0, .int .i64 sf] 32)
  have B1 : Below w.heap.size w (w.alloc (.cells #[.slice LA ln lc, .int .i64 0, .int .i64 sf] 32)) := (Below.refl _ _).alloc (Nat.le_refl _) _
  obtain ⟨w1, hw1⟩ : ∃ x, x = w.alloc (.cells #[.slice LA ln lc, .int .i64 0, .int .i64 sf] 32) := ⟨_, rfl⟩
  rw [← hw1] at N1 B1
  have c37 := recs_any w1 T p q c (C.keep (kp_below B1 T)) (fun b hb => hT b (Nat.le_trans B1.size hb)) hs hn hi hp hrl
  rw [H.hU] at c37
  rw [show (((0 + 1 : Nat)) : Int) = 1 from rfl] at c37
  have hrl2 : c.recs.length = ln := by have e := congrArg List.length H.recs; simp only [List.length_map] at e; rw [e, hln]
  have hln9 : ln ≤ 900 := by rw [hln]; exact H.len
  obtain ⟨hF, hhF⟩ : ∃ x, x = c.hF := ⟨_, rfl⟩
  obtain ⟨hB, hhB⟩ : ∃ x, x = c.hB := ⟨_, rfl⟩
  have HNX : Hid (∀ y, Below w1.heap.size w1 y → Calls Tryz.prog 19 #[.pointer (some ⟨p, 0, none⟩)] y fun e w' => e = .returned (.int .u64 ((ln + 1 : Nat) : Int)) ∧ Below y.heap.size y w') := fun y hy => by
    have e := next_any y T p q c (C.keep ((kp_below B1 T).trans (kp_below hy T))) hs
    rw [H.next, ← hln] at e
    exact e
  have HHD : Hid (∀ y, Below w1.heap.size w1 y → Calls Tryz.prog 20 #[.pointer (some ⟨p, 0, none⟩)] y fun e w' => e = .returned (.agg #[.int .u64 (hF : Int), .int .u64 (hB : Int), .int .u64 0]) ∧ Below y.heap.size y w') := fun y hy => by
    have e := head_c y T p q c (C.keep ((kp_below B1 T).trans (kp_below hy T)))
    rw [H.hU, ← hhF, ← hhB] at e
    exact e
  have HBC : Hid (∀ y, Below w1.heap.size w1 y → Calls Tryz.prog 36 #[.pointer (some ⟨p, 0, none⟩)] y fun e w' => e = .returned (.tuple #[.slice none 0 0, .int .i64 2]) ∧ y = w') := fun y hy => base_c0 y T p q c (C.keep ((kp_below B1 T).trans (kp_below hy T))) H.hB
  have HW : Hid (IntKind.i64.wrap (ln : Int) = (ln : Int) ∧ IntKind.i64.wrap ((ln : Int) + 1) = (ln : Int) + 1) := ⟨by rw [IntKind.wrap_i64]; omega, by rw [IntKind.wrap_i64]; omega⟩
  have HLT : Hid (IntKind.i64.wrap 1 = 1 ∧ IntKind.i64.wrap 0 = 0) := ⟨by decide, by decide⟩
  have HFD : Hid (∀ (w : World) (a b c : Value), (Instr.field 45 (.agg #[a, b, c]) 2).run Tryz.prog w = .ok c w) := fun w a b c => by rfl
  have HH := Lib.hid (And.intro H (And.intro hln (And.intro hr (And.intro B1 hln9))))
  obtain ⟨b3, hb3⟩ : ∃ x, x = w.heap.size := ⟨_, rfl⟩
  have HB3 : Hid (w1.heap[b3]? = some (.cells #[.slice LA ln lc, .int .i64 0, .int .i64 sf] 32) ∧ b3 < w1.heap.size) := ⟨by rw [hb3]; exact N1, by rw [hb3]; exact (Array.getElem?_eq_some_iff.1 N1).1⟩
  clear N1 B1 C hT hs hn hi hp hrl H hln hr hln9 hhF hhB
  go_enter Tryz.func13, Tryz.ntmps13
  go_upto_region 1 with (fail)
  rw [← hw1, ← hb3]
  clear hw1 hb3
  go_upto_region 2 with (go_at_call 37; (with_reducible refine c37.mono ?_); rintro e w2 ⟨v5, gl, rfl, L2, F2, B2⟩; have H1 := Lib.hid (And.intro L2 B2); clear L2 F2 B2 c37)
  obtain ⟨vA, vc, rfl⟩ : ∃ A cp, v5 = .slice A ln cp := by
    obtain ⟨ds, _, k2, _⟩ := H1.out.1
    obtain ⟨A, cp, e, _⟩ := k2.form
    exact ⟨A, cp, by rw [e, hrl2]⟩
  have HRL := Lib.hid hrl2
  clear hrl2
  have HBW := Lib.hid ((Below.refl w2.heap.size w2).drew)
  refine wp_region_noPanic ?_
  refine wp_region_held_drew (S := fun y : World => y.heap[b3]? = some (.cells #[.slice LA ln lc, .int .i64 0, .int .i64 sf] 32)) (by kernel_rfl) ((H1.out.2.drew.block b3 HB3.out.2).trans HB3.out.1) (fun hHeld => ?_)
  generalize w2.drew = wd at *
  refine wpAnyH_take (i := 0) (oi := { dst := some 16, op := Op.move (Operand.tmp 5), type := 58, pos := "law.go:49", after := #[], guard := none }) (v := .slice vA ln vc) rfl (by kernel_rfl) (by kernel_rfl) (by kernel_rfl) (fun _ _ _ h => h) (Or.inl ⟨by rfl, fun w hSw => by go_simp⟩) (by assumption) ?_
  try simp only [Act.put, List.setIfInBounds_toArray, List.set_cons_zero, List.set_cons_succ]
  refine wpAnyH_take (i := 1) (oi := { dst := some 17, op := Op.call { callee := Callee.builtin Builtin.len, args := #[Operand.tmp 16], argTypes := #[58] }, type := 3, pos := "law.go:49", after := #[{ on := 0, ground := Ground.data }], guard := none }) (v := .int .i64 (ln : Int)) rfl (by kernel_rfl) (by kernel_rfl) (by kernel_rfl) (fun _ _ _ h => h) (Or.inl ⟨by rfl, fun w hSw => by go_simp⟩) (by assumption) ?_
  try simp only [Act.put, List.setIfInBounds_toArray, List.set_cons_zero, List.set_cons_succ]
  refine wpAnyH_take (i := 2) (oi := { dst := some 18, op := Op.fieldAddr 32 (Operand.tmp 3) 0, type := 0, pos := "law.go:49", after := #[], guard := none }) (v := .pointer (some ⟨b3, 0, none⟩)) rfl (by kernel_rfl) (by kernel_rfl) (by kernel_rfl) (fun _ _ _ h => h) (Or.inl ⟨by rfl, fun w hSw => by go_simp⟩) (by assumption) ?_
  try simp only [Act.put, List.setIfInBounds_toArray, List.set_cons_zero, List.set_cons_succ]
  refine wpAnyH_take (i := 3) (oi := { dst := some 19, op := Op.load 30 (Operand.tmp 18), type := 30, pos := "law.go:49", after := #[{ on := 2, ground := Ground.data }], guard := none }) (v := .slice LA ln lc) rfl (by kernel_rfl) (by kernel_rfl) (by kernel_rfl) (fun _ _ _ h => h) (Or.inl ⟨by rfl, fun w hSw => by obtain ⟨z0, z1, z2, -⟩ := cells3 hSw; go_simp⟩) (by assumption) ?_
  try simp only [Act.put, List.setIfInBounds_toArray, List.set_cons_zero, List.set_cons_succ]
  refine wpAnyH_take (i := 4) (oi := { dst := some 20, op := Op.call { callee := Callee.builtin Builtin.len, args := #[Operand.tmp 19], argTypes := #[30] }, type := 3, pos := "law.go:49", after := #[{ on := 3, ground := Ground.data }], guard := none }) (v := .int .i64 (ln : Int)) rfl (by kernel_rfl) (by kernel_rfl) (by kernel_rfl) (fun _ _ _ h => h) (Or.inl ⟨by rfl, fun w hSw => by go_simp⟩) (by assumption) ?_
  try simp only [Act.put, List.setIfInBounds_toArray, List.set_cons_zero, List.set_cons_succ]
  refine wpAnyH_take (i := 5) (oi := { dst := some 21, op := Op.fieldAddr 32 (Operand.tmp 3) 1, type := 0, pos := "law.go:49", after := #[], guard := none }) (v := .pointer (some ⟨b3, 1, none⟩)) rfl (by kernel_rfl) (by kernel_rfl) (by kernel_rfl) (fun _ _ _ h => h) (Or.inl ⟨by rfl, fun w hSw => by go_simp⟩) (by assumption) ?_
  try simp only [Act.put, List.setIfInBounds_toArray, List.set_cons_zero, List.set_cons_succ]
  refine wpAnyH_take (i := 6) (oi := { dst := some 22, op := Op.load 3 (Operand.tmp 21), type := 3, pos := "law.go:49", after := #[{ on := 5, ground := Ground.data }], guard := none }) (v := .int .i64 0) rfl (by kernel_rfl) (by kernel_rfl) (by kernel_rfl) (fun _ _ _ h => h) (Or.inl ⟨by rfl, fun w hSw => by obtain ⟨z0, z1, z2, -⟩ := cells3 hSw; go_simp⟩) (by assumption) ?_
  try simp only [Act.put, List.setIfInBounds_toArray, List.set_cons_zero, List.set_cons_succ]
  refine wpAnyH_take (i := 7) (oi := { dst := some 23, op := Op.binOp BinOp.sub 3 (Operand.tmp 20) (Operand.tmp 22) 3, type := 3, pos := "law.go:49", after := #[{ on := 4, ground := Ground.data }, { on := 6, ground := Ground.data }], guard := none }) (v := .int .i64 (ln : Int)) rfl (by kernel_rfl) (by kernel_rfl) (by kernel_rfl) (fun _ _ _ h => h) (Or.inl ⟨by rfl, fun w hSw => by have hz := HW.out.1; go_simp⟩) (by assumption) ?_
  try simp only [Act.put, List.setIfInBounds_toArray, List.set_cons_zero, List.set_cons_succ]
  refine wpAnyH_take (i := 8) (oi := { dst := some 24, op := Op.binOp BinOp.neq 3 (Operand.tmp 17) (Operand.tmp 23) 3, type := 4, pos := "law.go:49", after := #[{ on := 1, ground := Ground.data }, { on := 7, ground := Ground.data }], guard := none }) (v := .bool false) rfl (by kernel_rfl) (by kernel_rfl) (by kernel_rfl) (fun _ _ _ h => h) (Or.inl ⟨by rfl, fun w hSw => by go_simp⟩) (by assumption) ?_
  try simp only [Act.put, List.setIfInBounds_toArray, List.set_cons_zero, List.set_cons_succ]
  refine wpAnyH_take (i := 9) (oi := { dst := some 25, op := Op.move (Operand.tmp 24), type := 4, pos := "law.go:49", after := #[{ on := 8, ground := Ground.data }], guard := none }) (v := .bool false) rfl (by kernel_rfl) (by kernel_rfl) (by kernel_rfl) (fun _ _ _ h => h) (Or.inl ⟨by rfl, fun w hSw => by go_simp⟩) (by assumption) ?_
  try simp only [Act.put, List.setIfInBounds_toArray, List.set_cons_zero, List.set_cons_succ]
  refine wpAnyH_take (i := 10) (oi := { dst := some 26, op := Op.move (Operand.tmp 6), type := 42, pos := "law.go:49", after := #[{ on := 9, ground := Ground.guard }], guard := some (9, false) }) (v := .int .u64 1) rfl (by kernel_rfl) (by kernel_rfl) (by kernel_rfl) (fun _ _ _ h => h) (Or.inl ⟨by rfl, fun w hSw => by go_simp⟩) (by assumption) ?_
  try simp only [Act.put, List.setIfInBounds_toArray, List.set_cons_zero, List.set_cons_succ]
  refine wpAnyH_take (i := 11) (oi := { dst := some 27, op := Op.convert 42 3 (Operand.tmp 26), type := 3, pos := "law.go:49", after := #[{ on := 10, ground := Ground.data }, { on := 9, ground := Ground.guard }], guard := some (9, false) }) (v := .int .i64 1) rfl (by kernel_rfl) (by kernel_rfl) (by kernel_rfl) (fun _ _ _ h => h) (Or.inl ⟨by rfl, fun w hSw => by have hz := HLT.out.1; go_simp⟩) (by assumption) ?_
  try simp only [Act.put, List.setIfInBounds_toArray, List.set_cons_zero, List.set_cons_succ]
  refine wpAnyH_take (i := 12) (oi := { dst := some 28, op := Op.fieldAddr 32 (Operand.tmp 3) 1, type := 0, pos := "law.go:49", after := #[{ on := 9, ground := Ground.guard }], guard := some (9, false) }) (v := .pointer (some ⟨b3, 1, none⟩)) rfl (by kernel_rfl) (by kernel_rfl) (by kernel_rfl) (fun _ _ _ h => h) (Or.inl ⟨by rfl, fun w hSw => by go_simp⟩) (by assumption) ?_
  try simp only [Act.put, List.setIfInBounds_toArray, List.set_cons_zero, List.set_cons_succ]
  refine wpAnyH_take (i := 13) (oi := { dst := some 29, op := Op.load 3 (Operand.tmp 28), type := 3, pos := "law.go:49", after := #[{ on := 12, ground := Ground.data }, { on := 9, ground := Ground.guard }], guard := some (9, false) }) (v := .int .i64 0) rfl (by kernel_rfl) (by kernel_rfl) (by kernel_rfl) (fun _ _ _ h => h) (Or.inl ⟨by rfl, fun w hSw => by obtain ⟨z0, z1, z2, -⟩ := cells3 hSw; go_simp⟩) (by assumption) ?_
  try simp only [Act.put, List.setIfInBounds_toArray, List.set_cons_zero, List.set_cons_succ]
  refine wpAnyH_take (i := 14) (oi := { dst := some 30, op := Op.binOp BinOp.add 3 (Operand.tmp 29) (Operand.const (Value.int IntKind.i64 1)) 3, type := 3, pos := "law.go:49", after := #[{ on := 13, ground := Ground.data }, { on := 9, ground := Ground.guard }], guard := some (9, false) }) (v := .int .i64 1) rfl (by kernel_rfl) (by kernel_rfl) (by kernel_rfl) (fun _ _ _ h => h) (Or.inl ⟨by rfl, fun w hSw => by have hz := HLT.out.1; go_simp⟩) (by assumption) ?_
  try simp only [Act.put, List.setIfInBounds_toArray, List.set_cons_zero, List.set_cons_succ]
  refine wpAnyH_take (i := 15) (oi := { dst := some 31, op := Op.binOp BinOp.neq 3 (Operand.tmp 27) (Operand.tmp 30) 3, type := 4, pos := "law.go:49", after := #[{ on := 11, ground := Ground.data }, { on := 14, ground := Ground.data }, { on := 9, ground := Ground.guard }], guard := some (9, false) }) (v := .bool false) rfl (by kernel_rfl) (by kernel_rfl) (by kernel_rfl) (fun _ _ _ h => h) (Or.inl ⟨by rfl, fun w hSw => by go_simp⟩) (by assumption) ?_
  try simp only [Act.put, List.setIfInBounds_toArray, List.set_cons_zero, List.set_cons_succ]
  refine wpAnyH_take (i := 16) (oi := { dst := some 32, op := Op.pick (Operand.tmp 25) (Operand.const (Value.bool true)) (Operand.tmp 31), type := 4, pos := "law.go:49", after := #[{ on := 9, ground := Ground.data }, { on := 15, ground := Ground.data }], guard := none }) (v := .bool false) rfl (by kernel_rfl) (by kernel_rfl) (by kernel_rfl) (fun _ _ _ h => h) (Or.inl ⟨by rfl, fun w hSw => by go_simp⟩) (by assumption) ?_
  try simp only [Act.put, List.setIfInBounds_toArray, List.set_cons_zero, List.set_cons_succ]
  refine wpAnyH_take (i := 17) (oi := { dst := some 33, op := Op.move (Operand.tmp 32), type := 4, pos := "law.go:49", after := #[{ on := 16, ground := Ground.data }, { on := 9, ground := Ground.chain }], guard := none }) (v := .bool false) rfl (by kernel_rfl) (by kernel_rfl) (by kernel_rfl) (fun _ _ _ h => h) (Or.inl ⟨by rfl, fun w hSw => by go_simp⟩) (by assumption) ?_
  try simp only [Act.put, List.setIfInBounds_toArray, List.set_cons_zero, List.set_cons_succ]
  refine wpAnyH_take (i := 18) (oi := { dst := some 34, op := Op.move (Operand.tmp 0), type := 26, pos := "law.go:49", after := #[{ on := 17, ground := Ground.guard }], guard := some (17, false) }) (v := .pointer (some ⟨p, 0, none⟩)) rfl (by kernel_rfl) (by kernel_rfl) (by kernel_rfl) (fun _ _ _ h => h) (Or.inl ⟨by rfl, fun w hSw => by go_simp⟩) (by assumption) ?_
  try simp only [Act.put, List.setIfInBounds_toArray, List.set_cons_zero, List.set_cons_succ]
  refine wpAnyH_take (i := 21) (oi := { dst := some 37, op := Op.fieldAddr 32 (Operand.tmp 3) 0, type := 0, pos := "law.go:49", after := #[{ on := 17, ground := Ground.guard }], guard := some (17, false) }) (v := .pointer (some ⟨b3, 0, none⟩)) rfl (by kernel_rfl) (by kernel_rfl) (by kernel_rfl) (fun _ _ _ h => h) (Or.inl ⟨by rfl, fun w hSw => by go_simp⟩) (by assumption) ?_
  try simp only [Act.put, List.setIfInBounds_toArray, List.set_cons_zero, List.set_cons_succ]
  refine wpAnyH_take (i := 22) (oi := { dst := some 38, op := Op.load 30 (Operand.tmp 37), type := 30, pos := "law.go:49", after := #[{ on := 21, ground := Ground.data }, { on := 17, ground := Ground.guard }], guard := some (17, false) }) (v := .slice LA ln lc) rfl (by kernel_rfl) (by kernel_rfl) (by kernel_rfl) (fun _ _ _ h => h) (Or.inl ⟨by rfl, fun w hSw => by obtain ⟨z0, z1, z2, -⟩ := cells3 hSw; go_simp⟩) (by assumption) ?_
  try simp only [Act.put, List.setIfInBounds_toArray, List.set_cons_zero, List.set_cons_succ]
  refine wpAnyH_take (i := 23) (oi := { dst := some 39, op := Op.call { callee := Callee.builtin Builtin.len, args := #[Operand.tmp 38], argTypes := #[30] }, type := 3, pos := "law.go:49", after := #[{ on := 22, ground := Ground.data }, { on := 17, ground := Ground.guard }], guard := some (17, false) }) (v := .int .i64 (ln : Int)) rfl (by kernel_rfl) (by kernel_rfl) (by kernel_rfl) (fun _ _ _ h => h) (Or.inl ⟨by rfl, fun w hSw => by go_simp⟩) (by assumption) ?_
  try simp only [Act.put, List.setIfInBounds_toArray, List.set_cons_zero, List.set_cons_succ]
  refine wpAnyH_take (i := 24) (oi := { dst := some 40, op := Op.binOp BinOp.add 3 (Operand.tmp 39) (Operand.const (Value.int IntKind.i64 1)) 3, type := 3, pos := "law.go:49", after := #[{ on := 23, ground := Ground.data }, { on := 17, ground := Ground.guard }], guard := some (17, false) }) (v := .int .i64 ((ln + 1 : Nat) : Int)) rfl (by kernel_rfl) (by kernel_rfl) (by kernel_rfl) (fun _ _ _ h => h) (Or.inl ⟨by rfl, fun w hSw => by have hz := HW.out.2; go_simp⟩) (by assumption) ?_
  try simp only [Act.put, List.setIfInBounds_toArray, List.set_cons_zero, List.set_cons_succ]
  refine wpAnyH_ready (rs := [19]) (by kernel_rfl) (by simp) ?_
  refine AllReadyH.cons (o := { dst := some 35, op := Op.call { callee := Callee.value (Operand.func 19), args := #[Operand.tmp 34], argTypes := #[26] }, type := 42, pos := "law.go:49", after := #[{ on := 18, ground := Ground.data }, { on := 17, ground := Ground.chain }, { on := 17, ground := Ground.guard }], guard := some (17, false) }) rfl (fun K hK => ?_) AllReadyH.nil
  go_simp
  refine (HNX.out wd (H1.out.2.trans (HBW.out.mono H1.out.2.size))).mono ?_
  rintro e wd ⟨rfl, B2⟩
  have BW := HBW.out.trans (B2.mono HBW.out.size)
  have hq := (B2.block b3 (Array.getElem?_eq_some_iff.1 hHeld).1).trans hHeld
  clear HBW
  have HBW := Lib.hid BW
  clear BW B2
  refine hK.out _ _ (hq) (fun hHeld => ?_)
  clear hK K
  try simp only [Act.put, List.setIfInBounds_toArray, List.set_cons_zero, List.set_cons_succ]
  clear hq
  refine wpAnyH_take (i := 20) (oi := { dst := some 36, op := Op.convert 42 3 (Operand.tmp 35), type := 3, pos := "law.go:49", after := #[{ on := 19, ground := Ground.data }, { on := 17, ground := Ground.guard }], guard := some (17, false) }) (v := .int .i64 ((ln + 1 : Nat) : Int)) rfl (by kernel_rfl) (by kernel_rfl) (by kernel_rfl) (fun _ _ _ h => h) (Or.inl ⟨by rfl, fun w hSw => by have hz := HW.out.2; go_simp⟩) (by assumption) ?_
  try simp only [Act.put, List.setIfInBounds_toArray, List.set_cons_zero, List.set_cons_succ]
  refine wpAnyH_take (i := 25) (oi := { dst := some 41, op := Op.binOp BinOp.neq 3 (Operand.tmp 36) (Operand.tmp 40) 3, type := 4, pos := "law.go:49", after := #[{ on := 20, ground := Ground.data }, { on := 24, ground := Ground.data }, { on := 17, ground := Ground.guard }], guard := some (17, false) }) (v := .bool false) rfl (by kernel_rfl) (by kernel_rfl) (by kernel_rfl) (fun _ _ _ h => h) (Or.inl ⟨by rfl, fun w hSw => by go_simp⟩) (by assumption) ?_
  try simp only [Act.put, List.setIfInBounds_toArray, List.set_cons_zero, List.set_cons_succ]
  refine wpAnyH_take (i := 26) (oi := { dst := some 42, op := Op.pick (Operand.tmp 33) (Operand.const (Value.bool true)) (Operand.tmp 41), type := 4, pos := "law.go:49", after := #[{ on := 17, ground := Ground.data }, { on := 25, ground := Ground.data }], guard := none }) (v := .bool false) rfl (by kernel_rfl) (by kernel_rfl) (by kernel_rfl) (fun _ _ _ h => h) (Or.inl ⟨by rfl, fun w hSw => by go_simp⟩) (by assumption) ?_
  try simp only [Act.put, List.setIfInBounds_toArray, List.set_cons_zero, List.set_cons_succ]
  refine wpAnyH_take (i := 27) (oi := { dst := some 43, op := Op.move (Operand.tmp 42), type := 4, pos := "law.go:49", after := #[{ on := 26, ground := Ground.data }, { on := 19, ground := Ground.chain }], guard := none }) (v := .bool false) rfl (by kernel_rfl) (by kernel_rfl) (by kernel_rfl) (fun _ _ _ h => h) (Or.inl ⟨by rfl, fun w hSw => by go_simp⟩) (by assumption) ?_
  try simp only [Act.put, List.setIfInBounds_toArray, List.set_cons_zero, List.set_cons_succ]
  refine wpAnyH_take (i := 28) (oi := { dst := some 44, op := Op.move (Operand.tmp 0), type := 26, pos := "law.go:49", after := #[{ on := 27, ground := Ground.guard }], guard := some (27, false) }) (v := .pointer (some ⟨p, 0, none⟩)) rfl (by kernel_rfl) (by kernel_rfl) (by kernel_rfl) (fun _ _ _ h => h) (Or.inl ⟨by rfl, fun w hSw => by go_simp⟩) (by assumption) ?_
  try simp only [Act.put, List.setIfInBounds_toArray, List.set_cons_zero, List.set_cons_succ]
  refine wpAnyH_take (i := 32) (oi := { dst := some 48, op := Op.fieldAddr 32 (Operand.tmp 3) 1, type := 0, pos := "law.go:49", after := #[{ on := 27, ground := Ground.guard }], guard := some (27, false) }) (v := .pointer (some ⟨b3, 1, none⟩)) rfl (by kernel_rfl) (by kernel_rfl) (by kernel_rfl) (fun _ _ _ h => h) (Or.inl ⟨by rfl, fun w hSw => by go_simp⟩) (by assumption) ?_
  try simp only [Act.put, List.setIfInBounds_toArray, List.set_cons_zero, List.set_cons_succ]
  refine wpAnyH_take (i := 33) (oi := { dst := some 49, op := Op.load 3 (Operand.tmp 48), type := 3, pos := "law.go:49", after := #[{ on := 32, ground := Ground.data }, { on := 27, ground := Ground.guard }], guard := some (27, false) }) (v := .int .i64 0) rfl (by kernel_rfl) (by kernel_rfl) (by kernel_rfl) (fun _ _ _ h => h) (Or.inl ⟨by rfl, fun w hSw => by obtain ⟨z0, z1, z2, -⟩ := cells3 hSw; go_simp⟩) (by assumption) ?_
  try simp only [Act.put, List.setIfInBounds_toArray, List.set_cons_zero, List.set_cons_succ]
  refine wpAnyH_ready (rs := [29]) (by kernel_rfl) (by simp) ?_
  refine AllReadyH.cons (o := { dst := some 45, op := Op.call { callee := Callee.value (Operand.func 20), args := #[Operand.tmp 44], argTypes := #[26] }, type := 45, pos := "law.go:49", after := #[{ on := 28, ground := Ground.data }, { on := 27, ground := Ground.chain }, { on := 27, ground := Ground.guard }], guard := some (27, false) }) rfl (fun K hK => ?_) AllReadyH.nil
  go_simp
  refine (HHD.out wd (H1.out.2.trans (HBW.out.mono H1.out.2.size))).mono ?_
  rintro e wd ⟨rfl, B2⟩
  have BW := HBW.out.trans (B2.mono HBW.out.size)
  have hq := (B2.block b3 (Array.getElem?_eq_some_iff.1 hHeld).1).trans hHeld
  clear HBW
  have HBW := Lib.hid BW
  clear BW B2
  refine hK.out _ _ (hq) (fun hHeld => ?_)
  clear hK K
  try simp only [Act.put, List.setIfInBounds_toArray, List.set_cons_zero, List.set_cons_succ]
  clear hq
  refine wpAnyH_take (i := 30) (oi := { dst := some 46, op := Op.field 45 (Operand.tmp 45) 2, type := 42, pos := "law.go:49", after := #[{ on := 29, ground := Ground.data }, { on := 27, ground := Ground.guard }], guard := some (27, false) }) (v := .int .u64 0) rfl (by kernel_rfl) (by kernel_rfl) (by kernel_rfl) (fun _ _ _ h => h) (Or.inl ⟨by rfl, fun w hSw => by have hz := HFD.out; go_simp⟩) (by assumption) ?_
  try simp only [Act.put, List.setIfInBounds_toArray, List.set_cons_zero, List.set_cons_succ]
  refine wpAnyH_take (i := 31) (oi := { dst := some 47, op := Op.convert 42 3 (Operand.tmp 46), type := 3, pos := "law.go:49", after := #[{ on := 30, ground := Ground.data }, { on := 27, ground := Ground.guard }], guard := some (27, false) }) (v := .int .i64 0) rfl (by kernel_rfl) (by kernel_rfl) (by kernel_rfl) (fun _ _ _ h => h) (Or.inl ⟨by rfl, fun w hSw => by have hz := HLT.out.2; go_simp⟩) (by assumption) ?_
  try simp only [Act.put, List.setIfInBounds_toArray, List.set_cons_zero, List.set_cons_succ]
  refine wpAnyH_take (i := 34) (oi := { dst := some 50, op := Op.binOp BinOp.neq 3 (Operand.tmp 47) (Operand.tmp 49) 3, type := 4, pos := "law.go:49", after := #[{ on := 31, ground := Ground.data }, { on := 33, ground := Ground.data }, { on := 27, ground := Ground.guard }], guard := some (27, false) }) (v := .bool false) rfl (by kernel_rfl) (by kernel_rfl) (by kernel_rfl) (fun _ _ _ h => h) (Or.inl ⟨by rfl, fun w hSw => by go_simp⟩) (by assumption) ?_
  try simp only [Act.put, List.setIfInBounds_toArray, List.set_cons_zero, List.set_cons_succ]
  refine wpAnyH_take (i := 35) (oi := { dst := some 51, op := Op.pick (Operand.tmp 43) (Operand.const (Value.bool true)) (Operand.tmp 50), type := 4, pos := "law.go:49", after := #[{ on := 27, ground := Ground.data }, { on := 34, ground := Ground.data }], guard := none }) (v := .bool false) rfl (by kernel_rfl) (by kernel_rfl) (by kernel_rfl) (fun _ _ _ h => h) (Or.inl ⟨by rfl, fun w hSw => by go_simp⟩) (by assumption) ?_
  try simp only [Act.put, List.setIfInBounds_toArray, List.set_cons_zero, List.set_cons_succ]
  refine wpAnyH_done (by kernel_rfl) ?_ _
  try unfold NoPanic
  have HL := Lib.hid (H1.out.1.keep (kp_below HBW.out T))
  have HW1 := Lib.hid (H1.out.2.trans (HBW.out.mono H1.out.2.size))
  have HS0 : Hid (Below wd.heap.size wd wd) := Below.refl _ _
  clear hHeld
  go_wp2
  go_loopw [7] (fun i wr => ∃ j : Nat, i = .int .i64 (j : Int) ∧ j ≤ ln ∧ Hid (Below wd.heap.size wd wr)) (fun i _ => ln - (intOf i).toNat)
  case atStart => exact ⟨0, rfl, Nat.zero_le _, HS0⟩
  case round =>
    clear HS0
    obtain ⟨j, rfl, hjn, HJ⟩ := hrel
    by_cases hj : j < ln
    · have hj' : (j : Int) < ln := by omega
      have hjr : j < c.recs.length := by rw [HRL.out]; exact hj
      have hjl : j < l.length := by rw [← HH.out.2.1]; exact hj
      obtain ⟨g, off, cap, A9, c9, hvv, -, -, IA⟩ := HL.out.at j hjr
      injection hvv with hv1 hv2 hv3
      subst hv1 hv3
      clear hv2
      obtain ⟨x, hx⟩ : ∃ x, x = c.recs[j] := ⟨_, rfl⟩
      rw [← hx] at IA
      obtain ⟨n, hn⟩ : ∃ n, n = l[j].toNat := ⟨_, rfl⟩
      have hxe : x.k.toNat = 107 + n % 3 ∧ x.p = byL n := by
        have e := congrArg (fun z => z[j]?) HH.out.1.recs
        simp only [List.getElem?_map, List.getElem?_eq_getElem hjr, List.getElem?_eq_getElem hjl, Option.map_some] at e
        injection e with e
        rw [← hx, ← hn] at e
        injection e with e1 e2
        exact ⟨e1, e2⟩
      have hn8 : n < 256 := by rw [hn]; exact l[j].toNat_lt
      obtain ⟨kk, hkk⟩ : ∃ k, k = x.k.toNat := ⟨_, rfl⟩
      obtain ⟨r3, hr3⟩ : ∃ r, r = n % 3 := ⟨_, rfl⟩
      obtain ⟨n9, hn9⟩ : ∃ m, m = x.p.length := ⟨_, rfl⟩
      obtain ⟨i0, i1, -, -, -, pa⟩ := IA
      rw [← hkk] at i0
      rw [← hn9] at i1
      have hgl := block_lt_of_cell i0
      have HIT : Hid (∀ y, Below wr.heap.size wr y → y.cell? ⟨g, off + j * 4, none⟩ = some (.int .u8 (kk : Int)) ∧ y.cell? ⟨g, off + j * 4 + 1, none⟩ = some (.slice A9 n9 c9)) := fun y hy => by
        have B := HJ.out.trans (hy.mono HJ.out.size)
        exact ⟨(World.cell?_of_block (a := ⟨g, off + j * 4, none⟩) (B.block g hgl)).trans i0, (World.cell?_of_block (a := ⟨g, off + j * 4 + 1, none⟩) (B.block g hgl)).trans i1⟩
      have HCV : Hid (∀ y, Below wr.heap.size wr y → (convert 30 9 (.slice A9 n9 c9)).run Tryz.prog y = .ok (.string (str (byL n))) y) := fun y hy => by
        have B := HJ.out.trans (hy.mono HJ.out.size)
        have e := Coin.conv_any (pa.below B).rd n9 c9 hn9
        rw [hxe.2] at e
        exact e
      have HR3 : Hid ((n : Int).tmod 3 = (r3 : Int) ∧ IntKind.u8.wrap (107 + (r3 : Int)) = (kk : Int)) := ⟨by rw [hr3, Int.tmod_eq_emod_of_nonneg (by omega)]; all_goals omega, by rw [IntKind.wrap_u8]; have := hxe.1; omega⟩
      have HN8 := Lib.hid hn8
      have Bw := HH.out.2.2.2.1.trans ((HW1.out.trans (HJ.out.mono HW1.out.size)).mono HH.out.2.2.2.1.size)
      obtain ⟨ad, rfl, hadl, hadc⟩ := HH.out.2.2.1 (by omega)
      have yb : wr.cell? (ad.add j) = some (.int .u8 (n : Int)) := by
        have e : wr.cell? (ad.add j) = w.cell? (ad.add j) := World.cell?_of_block (a := ad.add j) (by rw [Coin.block_add]; exact Bw.block _ hadl)
        rw [e, hadc j hjl, hn]
        rfl
      have r3' := ((HW1.out.trans (HJ.out.mono HW1.out.size)).block b3 HB3.out.2).trans HB3.out.1
      obtain ⟨y0, y1, y2, -⟩ := cells3 r3'
      have hw1 : IntKind.i64.wrap ((j : Int) + 1) = ((j + 1 : Nat) : Int) := by rw [IntKind.wrap_i64]; have := HH.out.2.2.2.2; omega
      have hw0 : IntKind.i64.wrap (j : Int) = (j : Int) := by rw [IntKind.wrap_i64]; have := HH.out.2.2.2.2; omega
      have HJJ := Lib.hid (And.intro hj hw1)
      clear hjr hjl hx hxe hn hn8 hkk hr3 hn9 i0 i1 pa hgl Bw hadl hadc r3' hj hjn hw1
      go_upto_region 8 with (fail)
      clear yb y0 y1 y2
      have HBW := Lib.hid ((Below.refl wr.heap.size wr).drew)
      refine wp_region_noPanic ?_
      refine wp_region_held_drew (S := fun y : World => Below wr.heap.size wr y) (by kernel_rfl) HBW.out (fun hHeld => ?_)
      generalize wr.drew = wd at *
      refine wpAnyH_take (i := 0) (oi := { dst := some 66, op := Op.move (Operand.tmp 5), type := 58, pos := "law.go:54", after := #[], guard := none }) (v := .slice (some ⟨g, off, none⟩) ln vc) rfl (by kernel_rfl) (by kernel_rfl) (by kernel_rfl) (fun _ _ _ h => h) (Or.inl ⟨by rfl, fun w hSw => by go_simp⟩) (by assumption) ?_
      try simp only [Act.put, List.setIfInBounds_toArray, List.set_cons_zero, List.set_cons_succ]
      refine wpAnyH_take (i := 1) (oi := { dst := some 67, op := Op.move (Operand.tmp 7), type := 3, pos := "law.go:54", after := #[], guard := none }) (v := .int .i64 (j : Int)) rfl (by kernel_rfl) (by kernel_rfl) (by kernel_rfl) (fun _ _ _ h => h) (Or.inl ⟨by rfl, fun w hSw => by go_simp⟩) (by assumption) ?_
      try simp only [Act.put, List.setIfInBounds_toArray, List.set_cons_zero, List.set_cons_succ]
      refine wpAnyH_take (i := 2) (oi := { dst := some 68, op := Op.indexAddr 58 (Operand.tmp 66) (Operand.tmp 67), type := 0, pos := "law.go:54", after := #[{ on := 0, ground := Ground.data }, { on := 1, ground := Ground.data }], guard := none }) (v := .pointer (some ⟨g, off + j * 4, none⟩)) rfl (by kernel_rfl) (by kernel_rfl) (by kernel_rfl) (fun _ _ _ h => h) (Or.inl ⟨by rfl, fun w hSw => by go_simp⟩) (by assumption) ?_
      try simp only [Act.put, List.setIfInBounds_toArray, List.set_cons_zero, List.set_cons_succ]
      refine wpAnyH_take (i := 3) (oi := { dst := some 69, op := Op.fieldAddr 75 (Operand.tmp 68) 0, type := 0, pos := "law.go:54", after := #[{ on := 2, ground := Ground.data }], guard := none }) (v := .pointer (some ⟨g, off + j * 4, none⟩)) rfl (by kernel_rfl) (by kernel_rfl) (by kernel_rfl) (fun _ _ _ h => h) (Or.inl ⟨by rfl, fun w hSw => by go_simp⟩) (by assumption) ?_
      try simp only [Act.put, List.setIfInBounds_toArray, List.set_cons_zero, List.set_cons_succ]
      refine wpAnyH_take (i := 4) (oi := { dst := some 70, op := Op.load 5 (Operand.tmp 69), type := 5, pos := "law.go:54", after := #[{ on := 3, ground := Ground.data }], guard := none }) (v := .int .u8 (kk : Int)) rfl (by kernel_rfl) (by kernel_rfl) (by kernel_rfl) (fun _ _ _ h => h) (Or.inl ⟨by rfl, fun w hSw => by obtain ⟨z0, z1⟩ := HIT.out _ hSw; go_simp⟩) (by assumption) ?_
      try simp only [Act.put, List.setIfInBounds_toArray, List.set_cons_zero, List.set_cons_succ]
      refine wpAnyH_take (i := 5) (oi := { dst := some 71, op := Op.move (Operand.tmp 8), type := 5, pos := "law.go:54", after := #[], guard := none }) (v := .int .u8 (n : Int)) rfl (by kernel_rfl) (by kernel_rfl) (by kernel_rfl) (fun _ _ _ h => h) (Or.inl ⟨by rfl, fun w hSw => by go_simp⟩) (by assumption) ?_
      try simp only [Act.put, List.setIfInBounds_toArray, List.set_cons_zero, List.set_cons_succ]
      refine wpAnyH_take (i := 6) (oi := { dst := some 72, op := Op.binOp BinOp.rem 5 (Operand.tmp 71) (Operand.const (Value.int IntKind.u8 3)) 5, type := 5, pos := "law.go:54", after := #[{ on := 5, ground := Ground.data }], guard := none }) (v := .int .u8 (r3 : Int)) rfl (by kernel_rfl) (by kernel_rfl) (by kernel_rfl) (fun _ _ _ h => h) (Or.inl ⟨by rfl, fun w hSw => by have hz := HR3.out.1; go_simp⟩) (by assumption) ?_
      try simp only [Act.put, List.setIfInBounds_toArray, List.set_cons_zero, List.set_cons_succ]
      refine wpAnyH_take (i := 7) (oi := { dst := some 73, op := Op.binOp BinOp.add 5 (Operand.const (Value.int IntKind.u8 107)) (Operand.tmp 72) 5, type := 5, pos := "law.go:54", after := #[{ on := 6, ground := Ground.data }], guard := none }) (v := .int .u8 (kk : Int)) rfl (by kernel_rfl) (by kernel_rfl) (by kernel_rfl) (fun _ _ _ h => h) (Or.inl ⟨by rfl, fun w hSw => by have hz := HR3.out.2; go_simp⟩) (by assumption) ?_
      try simp only [Act.put, List.setIfInBounds_toArray, List.set_cons_zero, List.set_cons_succ]
      refine wpAnyH_take (i := 8) (oi := { dst := some 74, op := Op.binOp BinOp.neq 5 (Operand.tmp 70) (Operand.tmp 73) 5, type := 4, pos := "law.go:54", after := #[{ on := 4, ground := Ground.data }, { on := 7, ground := Ground.data }], guard := none }) (v := .bool false) rfl (by kernel_rfl) (by kernel_rfl) (by kernel_rfl) (fun _ _ _ h => h) (Or.inl ⟨by rfl, fun w hSw => by go_simp⟩) (by assumption) ?_
      try simp only [Act.put, List.setIfInBounds_toArray, List.set_cons_zero, List.set_cons_succ]
      refine wpAnyH_take (i := 9) (oi := { dst := some 75, op := Op.move (Operand.tmp 74), type := 4, pos := "law.go:54", after := #[{ on := 8, ground := Ground.data }], guard := none }) (v := .bool false) rfl (by kernel_rfl) (by kernel_rfl) (by kernel_rfl) (fun _ _ _ h => h) (Or.inl ⟨by rfl, fun w hSw => by go_simp⟩) (by assumption) ?_
      try simp only [Act.put, List.setIfInBounds_toArray, List.set_cons_zero, List.set_cons_succ]
      refine wpAnyH_take (i := 10) (oi := { dst := some 76, op := Op.move (Operand.tmp 5), type := 58, pos := "law.go:54", after := #[{ on := 9, ground := Ground.guard }], guard := some (9, false) }) (v := .slice (some ⟨g, off, none⟩) ln vc) rfl (by kernel_rfl) (by kernel_rfl) (by kernel_rfl) (fun _ _ _ h => h) (Or.inl ⟨by rfl, fun w hSw => by go_simp⟩) (by assumption) ?_
      try simp only [Act.put, List.setIfInBounds_toArray, List.set_cons_zero, List.set_cons_succ]
      refine wpAnyH_take (i := 11) (oi := { dst := some 77, op := Op.move (Operand.tmp 7), type := 3, pos := "law.go:54", after := #[{ on := 9, ground := Ground.guard }], guard := some (9, false) }) (v := .int .i64 (j : Int)) rfl (by kernel_rfl) (by kernel_rfl) (by kernel_rfl) (fun _ _ _ h => h) (Or.inl ⟨by rfl, fun w hSw => by go_simp⟩) (by assumption) ?_
      try simp only [Act.put, List.setIfInBounds_toArray, List.set_cons_zero, List.set_cons_succ]
      refine wpAnyH_take (i := 12) (oi := { dst := some 78, op := Op.indexAddr 58 (Operand.tmp 76) (Operand.tmp 77), type := 0, pos := "law.go:54", after := #[{ on := 10, ground := Ground.data }, { on := 11, ground := Ground.data }, { on := 9, ground := Ground.guard }], guard := some (9, false) }) (v := .pointer (some ⟨g, off + j * 4, none⟩)) rfl (by kernel_rfl) (by kernel_rfl) (by kernel_rfl) (fun _ _ _ h => h) (Or.inl ⟨by rfl, fun w hSw => by go_simp⟩) (by assumption) ?_
      try simp only [Act.put, List.setIfInBounds_toArray, List.set_cons_zero, List.set_cons_succ]
      refine wpAnyH_take (i := 13) (oi := { dst := some 79, op := Op.fieldAddr 75 (Operand.tmp 78) 1, type := 0, pos := "law.go:54", after := #[{ on := 12, ground := Ground.data }, { on := 9, ground := Ground.guard }], guard := some (9, false) }) (v := .pointer (some ⟨g, off + j * 4 + 1, none⟩)) rfl (by kernel_rfl) (by kernel_rfl) (by kernel_rfl) (fun _ _ _ h => h) (Or.inl ⟨by rfl, fun w hSw => by go_simp⟩) (by assumption) ?_
      try simp only [Act.put, List.setIfInBounds_toArray, List.set_cons_zero, List.set_cons_succ]
      refine wpAnyH_take (i := 14) (oi := { dst := some 80, op := Op.load 30 (Operand.tmp 79), type := 30, pos := "law.go:54", after := #[{ on := 13, ground := Ground.data }, { on := 9, ground := Ground.guard }], guard := some (9, false) }) (v := .slice A9 n9 c9) rfl (by kernel_rfl) (by kernel_rfl) (by kernel_rfl) (fun _ _ _ h => h) (Or.inl ⟨by rfl, fun w hSw => by obtain ⟨z0, z1⟩ := HIT.out _ hSw; go_simp⟩) (by assumption) ?_
      try simp only [Act.put, List.setIfInBounds_toArray, List.set_cons_zero, List.set_cons_succ]
      refine wpAnyH_take (i := 16) (oi := { dst := some 82, op := Op.move (Operand.tmp 8), type := 5, pos := "law.go:54", after := #[{ on := 9, ground := Ground.guard }], guard := some (9, false) }) (v := .int .u8 (n : Int)) rfl (by kernel_rfl) (by kernel_rfl) (by kernel_rfl) (fun _ _ _ h => h) (Or.inl ⟨by rfl, fun w hSw => by go_simp⟩) (by assumption) ?_
      try simp only [Act.put, List.setIfInBounds_toArray, List.set_cons_zero, List.set_cons_succ]
      refine wpAnyH_take (i := 15) (oi := { dst := some 81, op := Op.convert 30 9 (Operand.tmp 80), type := 9, pos := "law.go:54", after := #[{ on := 14, ground := Ground.data }, { on := 9, ground := Ground.guard }], guard := some (9, false) }) (v := .string (str (byL n))) rfl (by kernel_rfl) (by kernel_rfl) (by kernel_rfl) (fun _ _ _ h => h) (Or.inl ⟨by rfl, fun w hSw => by have hz := HCV.out _ hSw; go_simp⟩) (by assumption) ?_
      try simp only [Act.put, List.setIfInBounds_toArray, List.set_cons_zero, List.set_cons_succ]
      refine wpAnyH_ready (rs := [17]) (by kernel_rfl) (by simp) ?_
      refine AllReadyH.cons (o := { dst := some 83, op := Op.call { callee := Callee.value (Operand.func 22), args := #[Operand.tmp 82], argTypes := #[5] }, type := 30, pos := "law.go:54", after := #[{ on := 16, ground := Ground.data }, { on := 9, ground := Ground.chain }, { on := 9, ground := Ground.guard }], guard := some (9, false) }) rfl (fun K hK => ?_) AllReadyH.nil
      go_simp
      refine (by_any wd n HN8.out).mono ?_
      rintro e w4 ⟨g4, k4, rfl, hk4, R4, hg4, B4⟩
      have BW := hHeld.trans (B4.mono hHeld.size)
      have HR4 := Lib.hid (And.intro R4 hk4)
      clear R4 hk4 hg4 B4
      refine hK.out _ _ (BW) (fun hHeld => ?_)
      clear hK K
      try simp only [Act.put, List.setIfInBounds_toArray, List.set_cons_zero, List.set_cons_succ]
      clear BW
      refine wpAnyH_ready (rs := [18]) (by kernel_rfl) (by simp) ?_
      refine AllReadyH.cons (o := { dst := some 84, op := Op.convert 30 9 (Operand.tmp 83), type := 9, pos := "law.go:54", after := #[{ on := 17, ground := Ground.data }, { on := 9, ground := Ground.guard }], guard := some (9, false) }) rfl (fun K hK => ?_) AllReadyH.nil
      have hcv2 : (convert 30 9 (.slice (some ⟨g4, 0, none⟩) k4 k4)).run Tryz.prog w4 = .ok (.string (str (byL n))) w4 := Coin.conv_any HR4.out.1.rd k4 k4 HR4.out.2
      go_simp
      clear hcv2
      refine hK.out _ _ (hHeld) (fun hHeld => ?_)
      clear hK K
      try simp only [Act.put, List.setIfInBounds_toArray, List.set_cons_zero, List.set_cons_succ]
      skip
      refine wpAnyH_take (i := 19) (oi := { dst := some 85, op := Op.binOp BinOp.neq 9 (Operand.tmp 81) (Operand.tmp 84) 9, type := 4, pos := "law.go:54", after := #[{ on := 15, ground := Ground.data }, { on := 18, ground := Ground.data }, { on := 9, ground := Ground.guard }], guard := some (9, false) }) (v := .bool false) rfl (by kernel_rfl) (by kernel_rfl) (by kernel_rfl) (fun _ _ _ h => h) (Or.inl ⟨by rfl, fun w hSw => by go_simp⟩) (by assumption) ?_
      try simp only [Act.put, List.setIfInBounds_toArray, List.set_cons_zero, List.set_cons_succ]
      refine wpAnyH_take (i := 20) (oi := { dst := some 86, op := Op.pick (Operand.tmp 75) (Operand.const (Value.bool true)) (Operand.tmp 85), type := 4, pos := "law.go:54", after := #[{ on := 9, ground := Ground.data }, { on := 19, ground := Ground.data }], guard := none }) (v := .bool false) rfl (by kernel_rfl) (by kernel_rfl) (by kernel_rfl) (fun _ _ _ h => h) (Or.inl ⟨by rfl, fun w hSw => by go_simp⟩) (by assumption) ?_
      try simp only [Act.put, List.setIfInBounds_toArray, List.set_cons_zero, List.set_cons_succ]
      refine wpAnyH_done (by kernel_rfl) ?_ _
      try unfold NoPanic
      have HJ2 := Lib.hid (HJ.out.trans (hHeld.mono HJ.out.size))
      have hw1 := HJJ.out.2
      clear hHeld
      go_wp2
      go_roundw
      case rel => exact ⟨j + 1, rfl, HJJ.out.1, HJ2⟩
      case measure => have := HJJ.out.1; simp [intOf]; omega
    · have hj' : ¬ (j : Int) < ln := by omega
      have c36 := HBC.out wr (HW1.out.trans (HJ.out.mono HW1.out.size))
      have r3' := ((HW1.out.trans (HJ.out.mono HW1.out.size)).block b3 HB3.out.2).trans HB3.out.1
      obtain ⟨y0, y1, y2, -⟩ := cells3 r3'
      clear r3' hj hjn
      go_wp2_with (go_at_call 36; (with_reducible refine c36.mono ?_); rintro e w9 ⟨rfl, rfl⟩)
      go_ret
      exact ⟨rfl, HH.out.2.2.2.1.trans ((HW1.out.trans (HJ.out.mono HW1.out.size)).mono HH.out.2.2.2.1.size)⟩

set_option linter.unusedVariables false
open Shf (Tag Ext Rep M RdN get Fine)
theorem full_c (w : World) (T : Nat → Tag) (p q : Nat) (c : CD) (h : CAt lo w T p q c) : Calls Tryz.prog 14 #[.pointer (some ⟨p, 0, none⟩)] w fun e w' => e = .returned (.bool c.full) ∧ w = w' := by
  obtain ⟨bA, bc, vv, gv, h⟩ := h
  have hr := h.row
  unfold cC at hr
  obtain ⟨p0, p1, p2, p3, p4, p5, p6, p7, -⟩ := row8 hr
  clear hr h
  go_enter Tryz.func14, Tryz.ntmps14
  go_wp2
  go_ret
  exact ⟨rfl, rfl⟩
end Go.Proofs.YtdbhgkbmbbjpdaaGreatDoor.Chr
