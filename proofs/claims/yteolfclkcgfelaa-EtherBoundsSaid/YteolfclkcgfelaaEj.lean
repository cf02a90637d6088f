/- Send. -/
import Derived.Test.YteolfclkcgfelaaEi
namespace Go.Proofs.Yteolfclkcgfelaa.Eth
open Go.ChangeShapes Go.WideShapes Go.ChangeAt Go.RowKit
open Coin (Rd Own b8 Row)
set_option maxRecDepth 8000
set_option linter.unusedVariables false
variable {lo : Nat} {w : World} {q : Nat} {H : Nat → Nat → Bool} {l : List Pk} {v : Value}

/-- What goes to the first k of those that hear one. -/
def snt (H : Nat → Nat → Bool) (a : Nat) (d : List UInt8) (k : Nat) : List Pk := ((List.range k).filter fun b => H a b).map fun b => ⟨a, b, d⟩
theorem snt_zero (H : Nat → Nat → Bool) (a : Nat) (d : List UInt8) : snt H a d 0 = [] := rfl
theorem snt_yes {H : Nat → Nat → Bool} {a k : Nat} {d : List UInt8} (h : H a k = true) : snt H a d (k + 1) = snt H a d k ++ [⟨a, k, d⟩] := by
  unfold snt
  rw [List.range_succ, List.filter_append, List.map_append]
  simp [h]
theorem snt_no {H : Nat → Nat → Bool} {a k : Nat} {d : List UInt8} (h : H a k = false) : snt H a d (k + 1) = snt H a d k := by
  unfold snt
  rw [List.range_succ, List.filter_append, List.map_append]
  simp [h]
theorem snt_len (H : Nat → Nat → Bool) (a : Nat) (d : List UInt8) (k : Nat) : (snt H a d k).length ≤ k := by
  unfold snt
  rw [List.length_map]
  exact Nat.le_trans (List.length_filter_le _ _) (by simp)
theorem Send_nil (w : World) (a : Int) (A : Option Addr) (n c : Nat) : Calls Try.prog 9 #[.pointer none, .int .i64 a, .slice A n c] w fun e w' => e = .returned (.int .i64 0) ∧ w = w' := by
  go_enter Try.func9, Try.ntmps9
  go_wp2
  go_ret
  exact ⟨rfl, rfl⟩
theorem Send_not (w : World) (q : Nat) (a : Int) (ha : isN a = false) (A : Option Addr) (n c : Nat) : Calls Try.prog 9 #[.pointer (some ⟨q, 0, none⟩), .int .i64 a, .slice A n c] w fun e w' => e = .returned (.int .i64 0) ∧ w = w' := by
  have c1 := ha ▸ node_any a w
  go_enter Try.func9, Try.ntmps9
  go_wp2_with (go_at_call 16; (with_reducible refine c1.mono ?_); rintro e w1 ⟨rfl, rfl⟩)
  go_ret
  exact ⟨rfl, rfl⟩
theorem idx25 (W : World) (ar : Array Value) (k : Nat) (x : Bool) (hk : k < 16) (har : ar[k]? = some (.bool x)) : (Instr.index 25 (.agg ar) (.int .i64 (k : Int))).run Try.prog W = .ok (.bool x) W := by
  simp [Instr.index, run_underlying Try.underlying25, asIntOf, hk, har, go_sem]
/-- What stands between two rounds. -/
def SnI (lo : Nat) (w : World) (q : Nat) (H : Nat → Nat → Bool) (l : List Pk) (v : Value) (a : Nat) (d : List UInt8) (u : Value) (k : Nat) (wr : World) : Prop := ∃ v', EAt lo wr q H (l ++ snt H a d k) v' ∧ EF w wr q v v' ∧ Own wr lo u d ∧ lo ≤ wr.heap.size
theorem SnI.more {w' w2 : World} {l' : List Pk} {u v2 : Value} {d : List UInt8} {z : Obj} (h : EAt lo w' q H l v) (ho : Own w' lo u d) (P : PSl lo w2 v2 l') (G : (w'.alloc z).grownBy w2 v.ownBlock) (O : v2.ownBlock = v.ownBlock ∨ v2.ownBlock = some (w'.alloc z).heap.size) :
    w2.heap[q]? = some (.cells (hc H ++ [v]).toArray 29 (0, 0)) ∧ EAt lo (w2.setCell ⟨q, 256, none⟩ v2) q H l' v2 ∧ EF w' (w2.setCell ⟨q, 256, none⟩ v2) q v v2 ∧ Own (w2.setCell ⟨q, 256, none⟩ v2) lo u d := by
  have BA := (Below.refl w'.heap.size w').alloc (Nat.le_refl _) z
  have h2 := h.below BA
  obtain ⟨a, b, c⟩ := h2.putP P G (O.imp_right fun h => ⟨_, h, Nat.le_refl _⟩)
  refine ⟨a, b, (EF.of q v BA).trans c, own_keep ho fun g hg => ?_⟩
  obtain ⟨o1, o2, cur, o3⟩ := own_ty ho hg
  have o4 := (BA.block g o2).trans o3
  exact (c.kept h2 o4 (by decide) (by decide)).trans o3.symm
set_option maxHeartbeats 4000000 in
theorem Send_any (h : EAt lo w q H l v) (hlo : lo ≤ w.heap.size) (a : Nat) (ha : a < 16) (A : Option Addr) (c Bx : Nat) (d : List UInt8) (hr : Rd w Bx A d) (hA : A = none → c = 0) (hAn : A = none → d = []) (hdl : d.length ≤ 100000) (hm : l.length ≤ 4000) :
    Calls Try.prog 9 #[.pointer (some ⟨q, 0, none⟩), .int .i64 (a : Int), .slice A d.length c] w fun e w' => ∃ v', e = .returned (.int .i64 ((snt H a d 16).length : Nat)) ∧ EAt lo w' q H (most (l ++ snt H a d 16)) v' ∧ EF w w' q v v' ∧ lo ≤ w'.heap.size := by
  have c1 := isN_nat ha ▸ node_any (a : Int) w
  have cc := clone_any w lo A c Bx d hr hA hAn hdl hlo
  generalize d.length = n at *
  have HE := Lib.hid (And.intro h hlo)
  have HM := Lib.hid hm
  have ha' : (a : Int) < 16 := by omega
  obtain ⟨ar, har⟩ : ∃ ar, ar = ((List.range 16).map fun b => Value.bool (H a b)).toArray := ⟨_, rfl⟩
  have HAR := Lib.hid har
  clear h hlo hr hA hAn hdl hm har
  go_enter Try.func9, Try.ntmps9
  go_upto_region 6 with (first
    | (go_at_call 16; (with_reducible refine c1.mono ?_); rintro e w1 ⟨rfl, rfl⟩)
    | (go_at_call 17; (with_reducible refine cc.mono ?_); rintro e w1 ⟨u, rfl, O1, B1⟩; obtain ⟨uA, uc, hu, -⟩ := O1.form; generalize d.length = um at hu; subst hu; have E1 := HE.out.1.below B1; have kl := Lib.hid (E1.line ha); have H1 := Lib.hid (show SnI lo w q H l v a d (.slice uA um uc) 0 w1 from ⟨v, by rw [snt_zero, List.append_nil]; exact E1, EF.of q v B1, O1, Nat.le_trans HE.out.2 B1.size⟩); clear E1 O1 B1)
    | (refine wpList_load_mid rfl 25 _ rfl q (a * 16) rfl _ _ kl.out Try.underlying25 rfl (by kernel_rfl) ?_; rw [← HAR.out]))
  clear kl c1 cc
  go_loopw [8, 26] (fun v8 v26 wr => ∃ (k : Nat) (m : Nat), k ≤ 16 ∧ v26 = .int .i64 (k : Int) ∧ v8 = .int .i64 (m : Int) ∧ Hid (m = (snt H a d k).length ∧ m ≤ 16 ∧ SnI lo w q H l v a d (.slice uA um uc) k wr)) (fun _ v26 _ => 16 - (intOf v26).toNat)
  case atStart => exact ⟨0, 0, Nat.zero_le _, rfl, rfl, rfl, Nat.zero_le _, H1.out⟩
  case round =>
    obtain ⟨k, m, hk, rfl, rfl, HR⟩ := hrel
    clear H1
    rcases Nat.lt_or_ge k 16 with hlt | hge
    · have hlt' : (k : Int) < 16 := by omega
      have hm16 := HR.out.2.1
      have har : ar[k]? = some (.bool (H a k)) := by
        rw [HAR.out, List.getElem?_toArray, List.getElem?_map, List.getElem?_range hlt]; rfl
      obtain ⟨x, hx⟩ : ∃ x, x = H a k := ⟨_, rfl⟩
      rw [← hx] at har
      have HX := Lib.hid hx
      have ki := fun W => idx25 W ar k x hlt har
      clear hx har
      cases x with
      | true =>
        obtain ⟨v', E9, F9, O9, L9⟩ := HR.out.2.2
        obtain ⟨vA, vc, hv9, -⟩ := E9.sl.len
        generalize hln : (l ++ snt H a d k).length = ln at hv9
        subst hv9
        have c1 := E9.under
        have HE9 := Lib.hid (And.intro E9 (And.intro F9 (And.intro O9 L9)))
        have HLN : Hid ((l ++ snt H a d k).length ≤ 100000) := Lib.hid (by have := HM.out; have := HR.out.1; simp only [List.length_append]; omega)
        have BA := (Below.refl wr.heap.size wr).alloc (Nat.le_refl _) (.cells #[.int .i64 (a : Int), .int .i64 (k : Int), .slice uA um uc] 39)
        have H2 := Lib.hid (And.intro (E9.sl.below BA) (And.intro (own_keep O9 fun g hg => BA.block g (own_ty O9 hg).2.1) (And.intro (heap_alloc_new wr (.cells #[.int .i64 (a : Int), .int .i64 (k : Int), .slice uA um uc] 39)) (Nat.le_trans L9 BA.size))))
        clear E9 F9 O9 L9 BA hln
        have hsn : snt H a d (k + 1) = snt H a d k ++ [⟨a, k, d⟩] := snt_yes HX.out.symm
        go_wp2_with (((refine app_pk rfl _ _ rfl lo (.slice vA ln vc) (l ++ snt H a d k) ⟨a, k, d⟩ (.slice uA um uc) wr.heap.size rfl rfl H2.out.1 H2.out.2.1 H2.out.2.2.1 HLN.out H2.out.2.2.2 ?_); intro v2 w2 P2 G2 O2; have H3 := Lib.hid (SnI.more HE9.out.1 HE9.out.2.2.1 P2 G2 O2); obtain ⟨A2, c2, hv2, -⟩ := P2.len; generalize ((l ++ snt H a d k) ++ [(⟨a, k, d⟩ : Pk)]).length = n2 at hv2; subst hv2; have c3 := row_under H3.out.1; have f3 := frozen_of_row _ q 256 _ 29 H3.out.1; clear P2 O2 G2))
        go_roundw
        case rel => exact ⟨k + 1, m + 1, hlt, by go_num, by go_num, by rw [hsn, List.length_append, HR.out.1]; rfl, by have := HR.out.1; have := snt_len H a d k; omega, _, by rw [hsn, ← List.append_assoc]; exact H3.out.2.1, HE9.out.2.1.trans H3.out.2.2.1, H3.out.2.2.2, Nat.le_trans HE9.out.2.2.2 H3.out.2.2.1.size⟩
        case measure => simp [intOf]; omega
      | false =>
        go_wp2
        go_roundw
        case rel => exact ⟨k + 1, m, hlt, by go_num, rfl, by rw [snt_no HX.out.symm]; exact HR.out.1, hm16, by unfold SnI; rw [snt_no HX.out.symm]; exact HR.out.2.2⟩
        case measure => simp [intOf]; omega
    · obtain rfl : k = 16 := by omega
      obtain ⟨v', E9, F9, O9, L9⟩ := HR.out.2.2
      have cz := lose_any E9 (by have := HM.out; have := snt_len H a d 16; simp only [List.length_append]; omega)
      have HF := Lib.hid (And.intro F9 L9)
      clear E9 F9 O9 L9
      go_wp2_with (go_at_call 18; (with_reducible refine cz.mono ?_); rintro e w4 ⟨rfl, v4, h4⟩; have H4 := Lib.hid h4; clear h4)
      go_ret
      exact ⟨v4, by rw [HR.out.1]; rfl, H4.out.1, HF.out.1.trans H4.out.2, Nat.le_trans HF.out.2 H4.out.2.size⟩
end Go.Proofs.Yteolfclkcgfelaa.Eth
