/- Double. -/
import Derived.Test.YteolfclkcgfelaaEf
namespace Go.Proofs.Yteolfclkcgfelaa.Eth
open Go.ChangeShapes Go.WideShapes Go.ChangeAt Go.RowKit
open Coin (Rd Own b8 Row)
set_option maxRecDepth 8000
set_option linter.unusedVariables false
variable {lo : Nat} {w : World} {q : Nat} {H : Nat → Nat → Bool} {l : List Pk} {v : Value}

set_option maxHeartbeats 8000000 in
theorem Double_any (h : EAt lo w q H l v) (hlo : lo ≤ w.heap.size) (hn : 0 < l.length) (hm : l.length ≤ 4000) (i : Int) : Calls Try.prog 10 #[.pointer (some ⟨q, 0, none⟩), .int .i64 i] w fun e w' => e = .returned (.int .i64 0) ∧ ∃ v', EAt lo w' q H (most (l ++ [l[plc i l.length]'(plc_lt i hn)])) v' ∧ EF w w' q v v' := by
  have cl := len_any h
  obtain ⟨k, hk⟩ : ∃ k, k = plc i l.length := ⟨_, rfl⟩
  have hkl : k < l.length := hk ▸ plc_lt i hn
  obtain ⟨p, hp⟩ : ∃ p, p = l[k] := ⟨_, rfl⟩
  have hp' : l[plc i l.length]'(plc_lt i hn) = p := by rw [hp]; simp only [hk]
  rw [hp']
  obtain ⟨n, hn'⟩ : ∃ n, n = l.length := ⟨_, rfl⟩
  have HP : Hid (∀ W, EAt lo W q H l v → Calls Try.prog 19 #[.pointer (some ⟨q, 0, none⟩), .int .i64 i] W fun e w' => e = .returned (.int .i64 (k : Nat)) ∧ W = w') := Lib.hid fun W hW => hk ▸ place_any hW hn (by omega) i
  have HA : Hid (∀ W, EAt lo W q H l v → ∃ g c u, v = .slice (some ⟨g, 0, none⟩) n c ∧ Own W lo u p.d ∧ W.cell? ⟨g, k * 3, none⟩ = some (.int .i64 (p.f : Int)) ∧ W.cell? ⟨g, k * 3 + 1, none⟩ = some (.int .i64 (p.t : Int)) ∧ W.cell? ⟨g, k * 3 + 2, none⟩ = some u) := Lib.hid fun W hW => by
    obtain ⟨g, c, u, h1, _, _, h2, h3, h4, h5⟩ := hW.sl.at' k hkl
    rw [← hp] at h2 h3 h4
    exact ⟨g, c, u, by rw [hn']; exact h1, h2, h3, h4, h5⟩
  obtain ⟨g, c, u, rfl, -⟩ := HA.out w h
  have hlen := Lib.hid hm
  rw [← hn'] at hkl hn cl
  have hn0 : ¬ (n : Int) = 0 := by omega
  have hki : (k : Int) < n := by omega
  have HE := Lib.hid h
  have HLO := Lib.hid hlo
  clear h hm hp hp' hk hn' hlo u
  go_enter Try.func10, Try.ntmps10
  go_upto_region 3 with (go_at_call 14; (with_reducible refine cl.mono ?_); rintro e w1 ⟨rfl, rfl⟩)
  refine wp_region_noPanic ?_
  refine wp_region_held_drew (S := fun _ : World => True) (by kernel_rfl) trivial (fun hHeld => ?_)
  have HE := Lib.hid (HE.out.below (Below.refl w.heap.size w).drew)
  have HW := Lib.hid (Below.refl w.heap.size w).drew
  have HLO := Lib.hid (Nat.le_trans HLO.out HW.out.size)
  generalize w.drew = wd at *
  refine wpAnyH_take (i := 0) (oi := { dst := some 8, op := Op.move (Operand.tmp 0), type := 24, pos := "ether.go:106", after := #[], guard := none }) (v := .pointer (some ⟨q, 0, none⟩)) rfl (by kernel_rfl) (by kernel_rfl) (by kernel_rfl) (fun _ _ _ h => h) (Or.inl ⟨by rfl, fun w hSw => by go_simp⟩) (by assumption) ?_
  try simp only [Act.put, List.setIfInBounds_toArray, List.set_cons_zero, List.set_cons_succ]
  refine wpAnyH_take (i := 1) (oi := { dst := some 9, op := Op.move (Operand.tmp 0), type := 24, pos := "ether.go:106", after := #[], guard := none }) (v := .pointer (some ⟨q, 0, none⟩)) rfl (by kernel_rfl) (by kernel_rfl) (by kernel_rfl) (fun _ _ _ h => h) (Or.inl ⟨by rfl, fun w hSw => by go_simp⟩) (by assumption) ?_
  try simp only [Act.put, List.setIfInBounds_toArray, List.set_cons_zero, List.set_cons_succ]
  refine wpAnyH_take (i := 2) (oi := { dst := some 10, op := Op.nilCheck (Operand.tmp 9), type := 0, pos := "ether.go:106", after := #[{ on := 1, ground := Ground.data }], guard := none }) (v := .pointer (some ⟨q, 0, none⟩)) rfl (by kernel_rfl) (by kernel_rfl) (by kernel_rfl) (fun _ _ _ h => h) (Or.inl ⟨by rfl, fun w hSw => by go_simp⟩) (by assumption) ?_
  try simp only [Act.put, List.setIfInBounds_toArray, List.set_cons_zero, List.set_cons_succ]
  refine wpAnyH_take (i := 3) (oi := { dst := some 11, op := Op.fieldAddr 29 (Operand.tmp 10) 1, type := 0, pos := "ether.go:106", after := #[{ on := 2, ground := Ground.data }], guard := none }) (v := .pointer (some ⟨q, 256, none⟩)) rfl (by kernel_rfl) (by kernel_rfl) (by kernel_rfl) (fun _ _ _ h => h) (Or.inl ⟨by rfl, fun w hSw => by go_simp⟩) (by assumption) ?_
  try simp only [Act.put, List.setIfInBounds_toArray, List.set_cons_zero, List.set_cons_succ]
  refine wpAnyH_take (i := 5) (oi := { dst := some 13, op := Op.move (Operand.tmp 0), type := 24, pos := "ether.go:106", after := #[], guard := none }) (v := .pointer (some ⟨q, 0, none⟩)) rfl (by kernel_rfl) (by kernel_rfl) (by kernel_rfl) (fun _ _ _ h => h) (Or.inl ⟨by rfl, fun w hSw => by go_simp⟩) (by assumption) ?_
  try simp only [Act.put, List.setIfInBounds_toArray, List.set_cons_zero, List.set_cons_succ]
  refine wpAnyH_take (i := 6) (oi := { dst := some 14, op := Op.nilCheck (Operand.tmp 13), type := 0, pos := "ether.go:106", after := #[{ on := 5, ground := Ground.data }], guard := none }) (v := .pointer (some ⟨q, 0, none⟩)) rfl (by kernel_rfl) (by kernel_rfl) (by kernel_rfl) (fun _ _ _ h => h) (Or.inl ⟨by rfl, fun w hSw => by go_simp⟩) (by assumption) ?_
  try simp only [Act.put, List.setIfInBounds_toArray, List.set_cons_zero, List.set_cons_succ]
  refine wpAnyH_take (i := 7) (oi := { dst := some 15, op := Op.fieldAddr 29 (Operand.tmp 14) 1, type := 0, pos := "ether.go:106", after := #[{ on := 6, ground := Ground.data }], guard := none }) (v := .pointer (some ⟨q, 256, none⟩)) rfl (by kernel_rfl) (by kernel_rfl) (by kernel_rfl) (fun _ _ _ h => h) (Or.inl ⟨by rfl, fun w hSw => by go_simp⟩) (by assumption) ?_
  try simp only [Act.put, List.setIfInBounds_toArray, List.set_cons_zero, List.set_cons_succ]
  refine wpAnyH_take (i := 9) (oi := { dst := some 17, op := Op.move (Operand.tmp 0), type := 24, pos := "ether.go:106", after := #[], guard := none }) (v := .pointer (some ⟨q, 0, none⟩)) rfl (by kernel_rfl) (by kernel_rfl) (by kernel_rfl) (fun _ _ _ h => h) (Or.inl ⟨by rfl, fun w hSw => by go_simp⟩) (by assumption) ?_
  try simp only [Act.put, List.setIfInBounds_toArray, List.set_cons_zero, List.set_cons_succ]
  refine wpAnyH_take (i := 10) (oi := { dst := some 18, op := Op.move (Operand.tmp 1), type := 3, pos := "ether.go:106", after := #[], guard := none }) (v := .int .i64 i) rfl (by kernel_rfl) (by kernel_rfl) (by kernel_rfl) (fun _ _ _ h => h) (Or.inl ⟨by rfl, fun w hSw => by go_simp⟩) (by assumption) ?_
  try simp only [Act.put, List.setIfInBounds_toArray, List.set_cons_zero, List.set_cons_succ]
  refine wpAnyH_ready (rs := [4, 8, 11]) (by kernel_rfl) (by simp) ?_
  refine (AllReadyH.cons (o := { dst := some 12, op := Op.load 27 (Operand.tmp 11), type := 27, pos := "ether.go:106", after := #[{ on := 3, ground := Ground.data }], guard := none }) rfl (fun K hK => ?_) (AllReadyH.cons (o := { dst := some 16, op := Op.load 27 (Operand.tmp 15), type := 27, pos := "ether.go:106", after := #[{ on := 7, ground := Ground.data }], guard := none }) rfl (fun K hK => ?_) (AllReadyH.cons (o := { dst := some 19, op := Op.call { callee := Callee.value (Operand.func 19), args := #[Operand.tmp 17, Operand.tmp 18], argTypes := #[24, 3] }, type := 3, pos := "ether.go:106", after := #[{ on := 9, ground := Ground.data }, { on := 10, ground := Ground.data }], guard := none }) rfl (fun K hK => ?_) AllReadyH.nil)))
  · have c1 := HE.out.under
    go_simp
    refine hK.out _ _ (trivial) (fun hHeld2 => ?_)
    clear hK K hHeld
    have hHeld := hHeld2
    clear hHeld2
    try simp only [Act.put, List.setIfInBounds_toArray, List.set_cons_zero, List.set_cons_succ]
    try clear c1
    refine wpAnyH_ready (rs := [8, 11]) (by kernel_rfl) (by simp) ?_
    refine (AllReadyH.cons (o := { dst := some 16, op := Op.load 27 (Operand.tmp 15), type := 27, pos := "ether.go:106", after := #[{ on := 7, ground := Ground.data }], guard := none }) rfl (fun K hK => ?_) (AllReadyH.cons (o := { dst := some 19, op := Op.call { callee := Callee.value (Operand.func 19), args := #[Operand.tmp 17, Operand.tmp 18], argTypes := #[24, 3] }, type := 3, pos := "ether.go:106", after := #[{ on := 9, ground := Ground.data }, { on := 10, ground := Ground.data }], guard := none }) rfl (fun K hK => ?_) AllReadyH.nil))
    · have c1 := HE.out.under
      go_simp
      refine hK.out _ _ (trivial) (fun hHeld2 => ?_)
      clear hK K hHeld
      have hHeld := hHeld2
      clear hHeld2
      try simp only [Act.put, List.setIfInBounds_toArray, List.set_cons_zero, List.set_cons_succ]
      try clear c1
      refine wpAnyH_ready (rs := [11]) (by kernel_rfl) (by simp) ?_
      refine (AllReadyH.cons (o := { dst := some 19, op := Op.call { callee := Callee.value (Operand.func 19), args := #[Operand.tmp 17, Operand.tmp 18], argTypes := #[24, 3] }, type := 3, pos := "ether.go:106", after := #[{ on := 9, ground := Ground.data }, { on := 10, ground := Ground.data }], guard := none }) rfl (fun K hK => ?_) AllReadyH.nil)
      go_simp
      with_reducible refine (HP.out _ HE.out).mono ?_
      rintro e w2 ⟨rfl, rfl⟩
      refine hK.out _ _ (trivial) (fun hHeld2 => ?_)
      clear hK K hHeld
      have hHeld := hHeld2
      clear hHeld2
      try simp only [Act.put, List.setIfInBounds_toArray, List.set_cons_zero, List.set_cons_succ]
      refine wpAnyH_take (i := 12) (oi := { dst := some 20, op := Op.indexAddr 27 (Operand.tmp 16) (Operand.tmp 19), type := 0, pos := "ether.go:106", after := #[{ on := 8, ground := Ground.data }, { on := 11, ground := Ground.data }], guard := none }) (v := .pointer (some ⟨g, k * 3, none⟩)) rfl (by kernel_rfl) (by kernel_rfl) (by kernel_rfl) (fun _ _ _ h => h) (Or.inl ⟨by rfl, fun w hSw => by go_simp⟩) (by assumption) ?_
      try simp only [Act.put, List.setIfInBounds_toArray, List.set_cons_zero, List.set_cons_succ]
      refine wpAnyH_ready (rs := [13]) (by kernel_rfl) (by simp) ?_
      refine (AllReadyH.cons (o := { dst := some 21, op := Op.load 39 (Operand.tmp 20), type := 39, pos := "ether.go:106", after := #[{ on := 12, ground := Ground.data }], guard := none }) rfl (fun K hK => ?_) AllReadyH.nil)
      obtain ⟨g', c', u, hv', U2, U3, U4, U5⟩ := HA.out _ HE.out
      injection hv' with hv1 _ hv2
      injection hv1 with hv1
      injection hv1 with hv1 _
      subst hv1 hv2
      obtain ⟨uA, uc, rfl, -⟩ := U2.form
      generalize p.d.length = um at *
      have HU := Lib.hid U2
      go_simp
      refine hK.out _ _ (trivial) (fun hHeld2 => ?_)
      clear hK K hHeld
      have hHeld := hHeld2
      clear hHeld2
      try simp only [Act.put, List.setIfInBounds_toArray, List.set_cons_zero, List.set_cons_succ]
      clear U2 U3 U4 U5
      refine wpAnyH_ready (rs := [14]) (by kernel_rfl) (by simp) ?_
      refine (AllReadyH.cons (o := { dst := some 22, op := Op.buildSlice 27 1 #[(0, Operand.tmp 21)], type := 27, pos := "ether.go:106", after := #[{ on := 13, ground := Ground.data }], guard := none }) rfl (fun K hK => ?_) AllReadyH.nil)
      go_simp
      refine hK.out _ _ (trivial) (fun hHeld2 => ?_)
      clear hK K hHeld
      have hHeld := hHeld2
      clear hHeld2
      try simp only [Act.put, List.setIfInBounds_toArray, List.set_cons_zero, List.set_cons_succ]
      have BA := (Below.refl wd.heap.size wd).alloc (Nat.le_refl _) (.cells #[.int .i64 (p.f : Int), .int .i64 (p.t : Int), .slice uA um uc] 39)
      have HZ := Lib.hid (heap_alloc_new wd (.cells #[.int .i64 (p.f : Int), .int .i64 (p.t : Int), .slice uA um uc] 39))
      have HE2 := Lib.hid (HE.out.below BA)
      have HU2 := Lib.hid (own_keep HU.out fun g hg => BA.block g (own_ty HU.out hg).2.1)
      have HLO2 := Lib.hid (Nat.le_trans HLO.out BA.size)
      have HW2 := Lib.hid (HW.out.trans (BA.mono HW.out.size))
      clear BA HE HU HLO HW
      generalize wd.alloc _ = wd3 at *
      generalize wd.heap.size = z at *
      generalize wd3 = wd at *
      have HE := HE2
      have HU := HU2
      have HLO := HLO2
      have HW := HW2
      clear HE2 HU2 HLO2 HW2
      refine wpAnyH_ready (rs := [15]) (by kernel_rfl) (by simp) ?_
      refine (AllReadyH.cons (o := { dst := some 23, op := Op.call { callee := Callee.builtin Builtin.append, args := #[Operand.tmp 12, Operand.tmp 22], argTypes := #[27, 27] }, type := 27, pos := "ether.go:106", after := #[{ on := 4, ground := Ground.data }, { on := 14, ground := Ground.data }, { on := 11, ground := Ground.chain }], guard := none }) rfl (fun K hK => ?_) AllReadyH.nil)
      refine step_pk rfl _ _ rfl _ p (.slice uA um uc) z (by simp [Act.eval]) (by simp [Act.eval]) HE.out.sl HU.out HZ.out (by have := hlen.out; omega) HLO.out (fun v2 w2 P2 G2 O2 => ?_)
      have H2 := Lib.hid (HE.out.putP P2 G2 (O2.imp_right fun h => ⟨_, h, Nat.le_refl _⟩))
      obtain ⟨A2, c2, hv2, -⟩ := P2.len
      generalize (l ++ [p]).length = n2 at hv2
      subst hv2
      clear P2 O2 G2
      refine hK.out _ _ (trivial) (fun hHeld2 => ?_)
      clear hK K hHeld
      have hHeld := hHeld2
      clear hHeld2
      try simp only [Act.put, List.setIfInBounds_toArray, List.set_cons_zero, List.set_cons_succ]
      refine wpAnyH_take (i := 16) (oi := { dst := some 24, op := Op.nilCheck (Operand.tmp 8), type := 0, pos := "ether.go:106", after := #[{ on := 0, ground := Ground.data }, { on := 0, ground := Ground.phase }, { on := 1, ground := Ground.phase }, { on := 2, ground := Ground.phase }, { on := 3, ground := Ground.phase }, { on := 4, ground := Ground.phase }, { on := 5, ground := Ground.phase }, { on := 6, ground := Ground.phase }, { on := 7, ground := Ground.phase }, { on := 8, ground := Ground.phase }, { on := 9, ground := Ground.phase }, { on := 10, ground := Ground.phase }, { on := 11, ground := Ground.phase }, { on := 12, ground := Ground.phase }, { on := 13, ground := Ground.phase }, { on := 14, ground := Ground.phase }, { on := 15, ground := Ground.phase }], guard := none }) (v := .pointer (some ⟨q, 0, none⟩)) rfl (by kernel_rfl) (by kernel_rfl) (by kernel_rfl) (fun _ _ _ h => h) (Or.inl ⟨by rfl, fun w hSw => by go_simp⟩) (by assumption) ?_
      try simp only [Act.put, List.setIfInBounds_toArray, List.set_cons_zero, List.set_cons_succ]
      refine wpAnyH_take (i := 17) (oi := { dst := some 25, op := Op.fieldAddr 29 (Operand.tmp 24) 1, type := 0, pos := "ether.go:106", after := #[{ on := 16, ground := Ground.data }, { on := 0, ground := Ground.phase }, { on := 1, ground := Ground.phase }, { on := 2, ground := Ground.phase }, { on := 3, ground := Ground.phase }, { on := 4, ground := Ground.phase }, { on := 5, ground := Ground.phase }, { on := 6, ground := Ground.phase }, { on := 7, ground := Ground.phase }, { on := 8, ground := Ground.phase }, { on := 9, ground := Ground.phase }, { on := 10, ground := Ground.phase }, { on := 11, ground := Ground.phase }, { on := 12, ground := Ground.phase }, { on := 13, ground := Ground.phase }, { on := 14, ground := Ground.phase }, { on := 15, ground := Ground.phase }], guard := none }) (v := .pointer (some ⟨q, 256, none⟩)) rfl (by kernel_rfl) (by kernel_rfl) (by kernel_rfl) (fun _ _ _ h => h) (Or.inl ⟨by rfl, fun w hSw => by go_simp⟩) (by assumption) ?_
      try simp only [Act.put, List.setIfInBounds_toArray, List.set_cons_zero, List.set_cons_succ]
      refine wpAnyH_ready (rs := [18]) (by kernel_rfl) (by simp) ?_
      refine (AllReadyH.cons (o := { dst := none, op := Op.store 27 (Operand.tmp 25) (Operand.tmp 23), type := 0, pos := "ether.go:106", after := #[{ on := 17, ground := Ground.data }, { on := 15, ground := Ground.data }, { on := 15, ground := Ground.chain }, { on := 0, ground := Ground.phase }, { on := 1, ground := Ground.phase }, { on := 2, ground := Ground.phase }, { on := 3, ground := Ground.phase }, { on := 4, ground := Ground.phase }, { on := 5, ground := Ground.phase }, { on := 6, ground := Ground.phase }, { on := 7, ground := Ground.phase }, { on := 8, ground := Ground.phase }, { on := 9, ground := Ground.phase }, { on := 10, ground := Ground.phase }, { on := 11, ground := Ground.phase }, { on := 12, ground := Ground.phase }, { on := 13, ground := Ground.phase }, { on := 14, ground := Ground.phase }, { on := 15, ground := Ground.phase }], guard := none }) rfl (fun K hK => ?_) AllReadyH.nil)
      have c1 := row_under H2.out.1
      have f1 := frozen_of_row _ q 256 _ 29 H2.out.1
      go_simp
      refine hK.out _ _ (trivial) (fun hHeld2 => ?_)
      clear hK K hHeld
      have hHeld := hHeld2
      clear hHeld2
      try simp only [Act.put, List.setIfInBounds_toArray, List.set_cons_zero, List.set_cons_succ]
      try clear c1 f1
      refine wpAnyH_done (by kernel_rfl) ?_ _
      try unfold NoPanic
      have H3 := Lib.hid (And.intro H2.out.2.1 ((EF.of q _ HW.out).trans H2.out.2.2))
      clear H2 HE HU HLO HW HZ
      generalize w2.setCell _ _ = w3 at *
      have cz := lose_any H3.out.1 (by have := hlen.out; simp; omega)
      go_wp2_with (go_at_call 18; (with_reducible refine cz.mono ?_); rintro e w4 ⟨rfl, v4, h4⟩; have H4 := Lib.hid h4; clear h4)
      go_ret
      exact ⟨rfl, v4, H4.out.1, H3.out.2.trans H4.out.2⟩
    · go_simp
      with_reducible refine (HP.out _ HE.out).mono ?_
      rintro e w2 ⟨rfl, rfl⟩
      refine hK.out _ _ (trivial) (fun hHeld2 => ?_)
      clear hK K hHeld
      have hHeld := hHeld2
      clear hHeld2
      try simp only [Act.put, List.setIfInBounds_toArray, List.set_cons_zero, List.set_cons_succ]
      refine wpAnyH_ready (rs := [8]) (by kernel_rfl) (by simp) ?_
      refine (AllReadyH.cons (o := { dst := some 16, op := Op.load 27 (Operand.tmp 15), type := 27, pos := "ether.go:106", after := #[{ on := 7, ground := Ground.data }], guard := none }) rfl (fun K hK => ?_) AllReadyH.nil)
      have c1 := HE.out.under
      go_simp
      refine hK.out _ _ (trivial) (fun hHeld2 => ?_)
      clear hK K hHeld
      have hHeld := hHeld2
      clear hHeld2
      try simp only [Act.put, List.setIfInBounds_toArray, List.set_cons_zero, List.set_cons_succ]
      try clear c1
      refine wpAnyH_take (i := 12) (oi := { dst := some 20, op := Op.indexAddr 27 (Operand.tmp 16) (Operand.tmp 19), type := 0, pos := "ether.go:106", after := #[{ on := 8, ground := Ground.data }, { on := 11, ground := Ground.data }], guard := none }) (v := .pointer (some ⟨g, k * 3, none⟩)) rfl (by kernel_rfl) (by kernel_rfl) (by kernel_rfl) (fun _ _ _ h => h) (Or.inl ⟨by rfl, fun w hSw => by go_simp⟩) (by assumption) ?_
      try simp only [Act.put, List.setIfInBounds_toArray, List.set_cons_zero, List.set_cons_succ]
      refine wpAnyH_ready (rs := [13]) (by kernel_rfl) (by simp) ?_
      refine (AllReadyH.cons (o := { dst := some 21, op := Op.load 39 (Operand.tmp 20), type := 39, pos := "ether.go:106", after := #[{ on := 12, ground := Ground.data }], guard := none }) rfl (fun K hK => ?_) AllReadyH.nil)
      obtain ⟨g', c', u, hv', U2, U3, U4, U5⟩ := HA.out _ HE.out
      injection hv' with hv1 _ hv2
      injection hv1 with hv1
      injection hv1 with hv1 _
      subst hv1 hv2
      obtain ⟨uA, uc, rfl, -⟩ := U2.form
      generalize p.d.length = um at *
      have HU := Lib.hid U2
      go_simp
      refine hK.out _ _ (trivial) (fun hHeld2 => ?_)
      clear hK K hHeld
      have hHeld := hHeld2
      clear hHeld2
      try simp only [Act.put, List.setIfInBounds_toArray, List.set_cons_zero, List.set_cons_succ]
      clear U2 U3 U4 U5
      refine wpAnyH_ready (rs := [14]) (by kernel_rfl) (by simp) ?_
      refine (AllReadyH.cons (o := { dst := some 22, op := Op.buildSlice 27 1 #[(0, Operand.tmp 21)], type := 27, pos := "ether.go:106", after := #[{ on := 13, ground := Ground.data }], guard := none }) rfl (fun K hK => ?_) AllReadyH.nil)
      go_simp
      refine hK.out _ _ (trivial) (fun hHeld2 => ?_)
      clear hK K hHeld
      have hHeld := hHeld2
      clear hHeld2
      try simp only [Act.put, List.setIfInBounds_toArray, List.set_cons_zero, List.set_cons_succ]
      have BA := (Below.refl wd.heap.size wd).alloc (Nat.le_refl _) (.cells #[.int .i64 (p.f : Int), .int .i64 (p.t : Int), .slice uA um uc] 39)
      have HZ := Lib.hid (heap_alloc_new wd (.cells #[.int .i64 (p.f : Int), .int .i64 (p.t : Int), .slice uA um uc] 39))
      have HE2 := Lib.hid (HE.out.below BA)
      have HU2 := Lib.hid (own_keep HU.out fun g hg => BA.block g (own_ty HU.out hg).2.1)
      have HLO2 := Lib.hid (Nat.le_trans HLO.out BA.size)
      have HW2 := Lib.hid (HW.out.trans (BA.mono HW.out.size))
      clear BA HE HU HLO HW
      generalize wd.alloc _ = wd3 at *
      generalize wd.heap.size = z at *
      generalize wd3 = wd at *
      have HE := HE2
      have HU := HU2
      have HLO := HLO2
      have HW := HW2
      clear HE2 HU2 HLO2 HW2
      refine wpAnyH_ready (rs := [15]) (by kernel_rfl) (by simp) ?_
      refine (AllReadyH.cons (o := { dst := some 23, op := Op.call { callee := Callee.builtin Builtin.append, args := #[Operand.tmp 12, Operand.tmp 22], argTypes := #[27, 27] }, type := 27, pos := "ether.go:106", after := #[{ on := 4, ground := Ground.data }, { on := 14, ground := Ground.data }, { on := 11, ground := Ground.chain }], guard := none }) rfl (fun K hK => ?_) AllReadyH.nil)
      refine step_pk rfl _ _ rfl _ p (.slice uA um uc) z (by simp [Act.eval]) (by simp [Act.eval]) HE.out.sl HU.out HZ.out (by have := hlen.out; omega) HLO.out (fun v2 w2 P2 G2 O2 => ?_)
      have H2 := Lib.hid (HE.out.putP P2 G2 (O2.imp_right fun h => ⟨_, h, Nat.le_refl _⟩))
      obtain ⟨A2, c2, hv2, -⟩ := P2.len
      generalize (l ++ [p]).length = n2 at hv2
      subst hv2
      clear P2 O2 G2
      refine hK.out _ _ (trivial) (fun hHeld2 => ?_)
      clear hK K hHeld
      have hHeld := hHeld2
      clear hHeld2
      try simp only [Act.put, List.setIfInBounds_toArray, List.set_cons_zero, List.set_cons_succ]
      refine wpAnyH_take (i := 16) (oi := { dst := some 24, op := Op.nilCheck (Operand.tmp 8), type := 0, pos := "ether.go:106", after := #[{ on := 0, ground := Ground.data }, { on := 0, ground := Ground.phase }, { on := 1, ground := Ground.phase }, { on := 2, ground := Ground.phase }, { on := 3, ground := Ground.phase }, { on := 4, ground := Ground.phase }, { on := 5, ground := Ground.phase }, { on := 6, ground := Ground.phase }, { on := 7, ground := Ground.phase }, { on := 8, ground := Ground.phase }, { on := 9, ground := Ground.phase }, { on := 10, ground := Ground.phase }, { on := 11, ground := Ground.phase }, { on := 12, ground := Ground.phase }, { on := 13, ground := Ground.phase }, { on := 14, ground := Ground.phase }, { on := 15, ground := Ground.phase }], guard := none }) (v := .pointer (some ⟨q, 0, none⟩)) rfl (by kernel_rfl) (by kernel_rfl) (by kernel_rfl) (fun _ _ _ h => h) (Or.inl ⟨by rfl, fun w hSw => by go_simp⟩) (by assumption) ?_
      try simp only [Act.put, List.setIfInBounds_toArray, List.set_cons_zero, List.set_cons_succ]
      refine wpAnyH_take (i := 17) (oi := { dst := some 25, op := Op.fieldAddr 29 (Operand.tmp 24) 1, type := 0, pos := "ether.go:106", after := #[{ on := 16, ground := Ground.data }, { on := 0, ground := Ground.phase }, { on := 1, ground := Ground.phase }, { on := 2, ground := Ground.phase }, { on := 3, ground := Ground.phase }, { on := 4, ground := Ground.phase }, { on := 5, ground := Ground.phase }, { on := 6, ground := Ground.phase }, { on := 7, ground := Ground.phase }, { on := 8, ground := Ground.phase }, { on := 9, ground := Ground.phase }, { on := 10, ground := Ground.phase }, { on := 11, ground := Ground.phase }, { on := 12, ground := Ground.phase }, { on := 13, ground := Ground.phase }, { on := 14, ground := Ground.phase }, { on := 15, ground := Ground.phase }], guard := none }) (v := .pointer (some ⟨q, 256, none⟩)) rfl (by kernel_rfl) (by kernel_rfl) (by kernel_rfl) (fun _ _ _ h => h) (Or.inl ⟨by rfl, fun w hSw => by go_simp⟩) (by assumption) ?_
      try simp only [Act.put, List.setIfInBounds_toArray, List.set_cons_zero, List.set_cons_succ]
      refine wpAnyH_ready (rs := [18]) (by kernel_rfl) (by simp) ?_
      refine (AllReadyH.cons (o := { dst := none, op := Op.store 27 (Operand.tmp 25) (Operand.tmp 23), type := 0, pos := "ether.go:106", after := #[{ on := 17, ground := Ground.data }, { on := 15, ground := Ground.data }, { on := 15, ground := Ground.chain }, { on := 0, ground := Ground.phase }, { on := 1, ground := Ground.phase }, { on := 2, ground := Ground.phase }, { on := 3, ground := Ground.phase }, { on := 4, ground := Ground.phase }, { on := 5, ground := Ground.phase }, { on := 6, ground := Ground.phase }, { on := 7, ground := Ground.phase }, { on := 8, ground := Ground.phase }, { on := 9, ground := Ground.phase }, { on := 10, ground := Ground.phase }, { on := 11, ground := Ground.phase }, { on := 12, ground := Ground.phase }, { on := 13, ground := Ground.phase }, { on := 14, ground := Ground.phase }, { on := 15, ground := Ground.phase }], guard := none }) rfl (fun K hK => ?_) AllReadyH.nil)
      have c1 := row_under H2.out.1
      have f1 := frozen_of_row _ q 256 _ 29 H2.out.1
      go_simp
      refine hK.out _ _ (trivial) (fun hHeld2 => ?_)
      clear hK K hHeld
      have hHeld := hHeld2
      clear hHeld2
      try simp only [Act.put, List.setIfInBounds_toArray, List.set_cons_zero, List.set_cons_succ]
      try clear c1 f1
      refine wpAnyH_done (by kernel_rfl) ?_ _
      try unfold NoPanic
      have H3 := Lib.hid (And.intro H2.out.2.1 ((EF.of q _ HW.out).trans H2.out.2.2))
      clear H2 HE HU HLO HW HZ
      generalize w2.setCell _ _ = w3 at *
      have cz := lose_any H3.out.1 (by have := hlen.out; simp; omega)
      go_wp2_with (go_at_call 18; (with_reducible refine cz.mono ?_); rintro e w4 ⟨rfl, v4, h4⟩; have H4 := Lib.hid h4; clear h4)
      go_ret
      exact ⟨rfl, v4, H4.out.1, H3.out.2.trans H4.out.2⟩
  · have c1 := HE.out.under
    go_simp
    refine hK.out _ _ (trivial) (fun hHeld2 => ?_)
    clear hK K hHeld
    have hHeld := hHeld2
    clear hHeld2
    try simp only [Act.put, List.setIfInBounds_toArray, List.set_cons_zero, List.set_cons_succ]
    try clear c1
    refine wpAnyH_ready (rs := [4, 11]) (by kernel_rfl) (by simp) ?_
    refine (AllReadyH.cons (o := { dst := some 12, op := Op.load 27 (Operand.tmp 11), type := 27, pos := "ether.go:106", after := #[{ on := 3, ground := Ground.data }], guard := none }) rfl (fun K hK => ?_) (AllReadyH.cons (o := { dst := some 19, op := Op.call { callee := Callee.value (Operand.func 19), args := #[Operand.tmp 17, Operand.tmp 18], argTypes := #[24, 3] }, type := 3, pos := "ether.go:106", after := #[{ on := 9, ground := Ground.data }, { on := 10, ground := Ground.data }], guard := none }) rfl (fun K hK => ?_) AllReadyH.nil))
    · have c1 := HE.out.under
      go_simp
      refine hK.out _ _ (trivial) (fun hHeld2 => ?_)
      clear hK K hHeld
      have hHeld := hHeld2
      clear hHeld2
      try simp only [Act.put, List.setIfInBounds_toArray, List.set_cons_zero, List.set_cons_succ]
      try clear c1
      refine wpAnyH_ready (rs := [11]) (by kernel_rfl) (by simp) ?_
      refine (AllReadyH.cons (o := { dst := some 19, op := Op.call { callee := Callee.value (Operand.func 19), args := #[Operand.tmp 17, Operand.tmp 18], argTypes := #[24, 3] }, type := 3, pos := "ether.go:106", after := #[{ on := 9, ground := Ground.data }, { on := 10, ground := Ground.data }], guard := none }) rfl (fun K hK => ?_) AllReadyH.nil)
      go_simp
      with_reducible refine (HP.out _ HE.out).mono ?_
      rintro e w2 ⟨rfl, rfl⟩
      refine hK.out _ _ (trivial) (fun hHeld2 => ?_)
      clear hK K hHeld
      have hHeld := hHeld2
      clear hHeld2
      try simp only [Act.put, List.setIfInBounds_toArray, List.set_cons_zero, List.set_cons_succ]
      refine wpAnyH_take (i := 12) (oi := { dst := some 20, op := Op.indexAddr 27 (Operand.tmp 16) (Operand.tmp 19), type := 0, pos := "ether.go:106", after := #[{ on := 8, ground := Ground.data }, { on := 11, ground := Ground.data }], guard := none }) (v := .pointer (some ⟨g, k * 3, none⟩)) rfl (by kernel_rfl) (by kernel_rfl) (by kernel_rfl) (fun _ _ _ h => h) (Or.inl ⟨by rfl, fun w hSw => by go_simp⟩) (by assumption) ?_
      try simp only [Act.put, List.setIfInBounds_toArray, List.set_cons_zero, List.set_cons_succ]
      refine wpAnyH_ready (rs := [13]) (by kernel_rfl) (by simp) ?_
      refine (AllReadyH.cons (o := { dst := some 21, op := Op.load 39 (Operand.tmp 20), type := 39, pos := "ether.go:106", after := #[{ on := 12, ground := Ground.data }], guard := none }) rfl (fun K hK => ?_) AllReadyH.nil)
      obtain ⟨g', c', u, hv', U2, U3, U4, U5⟩ := HA.out _ HE.out
      injection hv' with hv1 _ hv2
      injection hv1 with hv1
      injection hv1 with hv1 _
      subst hv1 hv2
      obtain ⟨uA, uc, rfl, -⟩ := U2.form
      generalize p.d.length = um at *
      have HU := Lib.hid U2
      go_simp
      refine hK.out _ _ (trivial) (fun hHeld2 => ?_)
      clear hK K hHeld
      have hHeld := hHeld2
      clear hHeld2
      try simp only [Act.put, List.setIfInBounds_toArray, List.set_cons_zero, List.set_cons_succ]
      clear U2 U3 U4 U5
      refine wpAnyH_ready (rs := [14]) (by kernel_rfl) (by simp) ?_
      refine (AllReadyH.cons (o := { dst := some 22, op := Op.buildSlice 27 1 #[(0, Operand.tmp 21)], type := 27, pos := "ether.go:106", after := #[{ on := 13, ground := Ground.data }], guard := none }) rfl (fun K hK => ?_) AllReadyH.nil)
      go_simp
      refine hK.out _ _ (trivial) (fun hHeld2 => ?_)
      clear hK K hHeld
      have hHeld := hHeld2
      clear hHeld2
      try simp only [Act.put, List.setIfInBounds_toArray, List.set_cons_zero, List.set_cons_succ]
      have BA := (Below.refl wd.heap.size wd).alloc (Nat.le_refl _) (.cells #[.int .i64 (p.f : Int), .int .i64 (p.t : Int), .slice uA um uc] 39)
      have HZ := Lib.hid (heap_alloc_new wd (.cells #[.int .i64 (p.f : Int), .int .i64 (p.t : Int), .slice uA um uc] 39))
      have HE2 := Lib.hid (HE.out.below BA)
      have HU2 := Lib.hid (own_keep HU.out fun g hg => BA.block g (own_ty HU.out hg).2.1)
      have HLO2 := Lib.hid (Nat.le_trans HLO.out BA.size)
      have HW2 := Lib.hid (HW.out.trans (BA.mono HW.out.size))
      clear BA HE HU HLO HW
      generalize wd.alloc _ = wd3 at *
      generalize wd.heap.size = z at *
      generalize wd3 = wd at *
      have HE := HE2
      have HU := HU2
      have HLO := HLO2
      have HW := HW2
      clear HE2 HU2 HLO2 HW2
      refine wpAnyH_ready (rs := [15]) (by kernel_rfl) (by simp) ?_
      refine (AllReadyH.cons (o := { dst := some 23, op := Op.call { callee := Callee.builtin Builtin.append, args := #[Operand.tmp 12, Operand.tmp 22], argTypes := #[27, 27] }, type := 27, pos := "ether.go:106", after := #[{ on := 4, ground := Ground.data }, { on := 14, ground := Ground.data }, { on := 11, ground := Ground.chain }], guard := none }) rfl (fun K hK => ?_) AllReadyH.nil)
      refine step_pk rfl _ _ rfl _ p (.slice uA um uc) z (by simp [Act.eval]) (by simp [Act.eval]) HE.out.sl HU.out HZ.out (by have := hlen.out; omega) HLO.out (fun v2 w2 P2 G2 O2 => ?_)
      have H2 := Lib.hid (HE.out.putP P2 G2 (O2.imp_right fun h => ⟨_, h, Nat.le_refl _⟩))
      obtain ⟨A2, c2, hv2, -⟩ := P2.len
      generalize (l ++ [p]).length = n2 at hv2
      subst hv2
      clear P2 O2 G2
      refine hK.out _ _ (trivial) (fun hHeld2 => ?_)
      clear hK K hHeld
      have hHeld := hHeld2
      clear hHeld2
      try simp only [Act.put, List.setIfInBounds_toArray, List.set_cons_zero, List.set_cons_succ]
      refine wpAnyH_take (i := 16) (oi := { dst := some 24, op := Op.nilCheck (Operand.tmp 8), type := 0, pos := "ether.go:106", after := #[{ on := 0, ground := Ground.data }, { on := 0, ground := Ground.phase }, { on := 1, ground := Ground.phase }, { on := 2, ground := Ground.phase }, { on := 3, ground := Ground.phase }, { on := 4, ground := Ground.phase }, { on := 5, ground := Ground.phase }, { on := 6, ground := Ground.phase }, { on := 7, ground := Ground.phase }, { on := 8, ground := Ground.phase }, { on := 9, ground := Ground.phase }, { on := 10, ground := Ground.phase }, { on := 11, ground := Ground.phase }, { on := 12, ground := Ground.phase }, { on := 13, ground := Ground.phase }, { on := 14, ground := Ground.phase }, { on := 15, ground := Ground.phase }], guard := none }) (v := .pointer (some ⟨q, 0, none⟩)) rfl (by kernel_rfl) (by kernel_rfl) (by kernel_rfl) (fun _ _ _ h => h) (Or.inl ⟨by rfl, fun w hSw => by go_simp⟩) (by assumption) ?_
      try simp only [Act.put, List.setIfInBounds_toArray, List.set_cons_zero, List.set_cons_succ]
      refine wpAnyH_take (i := 17) (oi := { dst := some 25, op := Op.fieldAddr 29 (Operand.tmp 24) 1, type := 0, pos := "ether.go:106", after := #[{ on := 16, ground := Ground.data }, { on := 0, ground := Ground.phase }, { on := 1, ground := Ground.phase }, { on := 2, ground := Ground.phase }, { on := 3, ground := Ground.phase }, { on := 4, ground := Ground.phase }, { on := 5, ground := Ground.phase }, { on := 6, ground := Ground.phase }, { on := 7, ground := Ground.phase }, { on := 8, ground := Ground.phase }, { on := 9, ground := Ground.phase }, { on := 10, ground := Ground.phase }, { on := 11, ground := Ground.phase }, { on := 12, ground := Ground.phase }, { on := 13, ground := Ground.phase }, { on := 14, ground := Ground.phase }, { on := 15, ground := Ground.phase }], guard := none }) (v := .pointer (some ⟨q, 256, none⟩)) rfl (by kernel_rfl) (by kernel_rfl) (by kernel_rfl) (fun _ _ _ h => h) (Or.inl ⟨by rfl, fun w hSw => by go_simp⟩) (by assumption) ?_
      try simp only [Act.put, List.setIfInBounds_toArray, List.set_cons_zero, List.set_cons_succ]
      refine wpAnyH_ready (rs := [18]) (by kernel_rfl) (by simp) ?_
      refine (AllReadyH.cons (o := { dst := none, op := Op.store 27 (Operand.tmp 25) (Operand.tmp 23), type := 0, pos := "ether.go:106", after := #[{ on := 17, ground := Ground.data }, { on := 15, ground := Ground.data }, { on := 15, ground := Ground.chain }, { on := 0, ground := Ground.phase }, { on := 1, ground := Ground.phase }, { on := 2, ground := Ground.phase }, { on := 3, ground := Ground.phase }, { on := 4, ground := Ground.phase }, { on := 5, ground := Ground.phase }, { on := 6, ground := Ground.phase }, { on := 7, ground := Ground.phase }, { on := 8, ground := Ground.phase }, { on := 9, ground := Ground.phase }, { on := 10, ground := Ground.phase }, { on := 11, ground := Ground.phase }, { on := 12, ground := Ground.phase }, { on := 13, ground := Ground.phase }, { on := 14, ground := Ground.phase }, { on := 15, ground := Ground.phase }], guard := none }) rfl (fun K hK => ?_) AllReadyH.nil)
      have c1 := row_under H2.out.1
      have f1 := frozen_of_row _ q 256 _ 29 H2.out.1
      go_simp
      refine hK.out _ _ (trivial) (fun hHeld2 => ?_)
      clear hK K hHeld
      have hHeld := hHeld2
      clear hHeld2
      try simp only [Act.put, List.setIfInBounds_toArray, List.set_cons_zero, List.set_cons_succ]
      try clear c1 f1
      refine wpAnyH_done (by kernel_rfl) ?_ _
      try unfold NoPanic
      have H3 := Lib.hid (And.intro H2.out.2.1 ((EF.of q _ HW.out).trans H2.out.2.2))
      clear H2 HE HU HLO HW HZ
      generalize w2.setCell _ _ = w3 at *
      have cz := lose_any H3.out.1 (by have := hlen.out; simp; omega)
      go_wp2_with (go_at_call 18; (with_reducible refine cz.mono ?_); rintro e w4 ⟨rfl, v4, h4⟩; have H4 := Lib.hid h4; clear h4)
      go_ret
      exact ⟨rfl, v4, H4.out.1, H3.out.2.trans H4.out.2⟩
    · go_simp
      with_reducible refine (HP.out _ HE.out).mono ?_
      rintro e w2 ⟨rfl, rfl⟩
      refine hK.out _ _ (trivial) (fun hHeld2 => ?_)
      clear hK K hHeld
      have hHeld := hHeld2
      clear hHeld2
      try simp only [Act.put, List.setIfInBounds_toArray, List.set_cons_zero, List.set_cons_succ]
      refine wpAnyH_take (i := 12) (oi := { dst := some 20, op := Op.indexAddr 27 (Operand.tmp 16) (Operand.tmp 19), type := 0, pos := "ether.go:106", after := #[{ on := 8, ground := Ground.data }, { on := 11, ground := Ground.data }], guard := none }) (v := .pointer (some ⟨g, k * 3, none⟩)) rfl (by kernel_rfl) (by kernel_rfl) (by kernel_rfl) (fun _ _ _ h => h) (Or.inl ⟨by rfl, fun w hSw => by go_simp⟩) (by assumption) ?_
      try simp only [Act.put, List.setIfInBounds_toArray, List.set_cons_zero, List.set_cons_succ]
      refine wpAnyH_ready (rs := [4, 13]) (by kernel_rfl) (by simp) ?_
      refine (AllReadyH.cons (o := { dst := some 12, op := Op.load 27 (Operand.tmp 11), type := 27, pos := "ether.go:106", after := #[{ on := 3, ground := Ground.data }], guard := none }) rfl (fun K hK => ?_) (AllReadyH.cons (o := { dst := some 21, op := Op.load 39 (Operand.tmp 20), type := 39, pos := "ether.go:106", after := #[{ on := 12, ground := Ground.data }], guard := none }) rfl (fun K hK => ?_) AllReadyH.nil))
      · have c1 := HE.out.under
        go_simp
        refine hK.out _ _ (trivial) (fun hHeld2 => ?_)
        clear hK K hHeld
        have hHeld := hHeld2
        clear hHeld2
        try simp only [Act.put, List.setIfInBounds_toArray, List.set_cons_zero, List.set_cons_succ]
        try clear c1
        refine wpAnyH_ready (rs := [13]) (by kernel_rfl) (by simp) ?_
        refine (AllReadyH.cons (o := { dst := some 21, op := Op.load 39 (Operand.tmp 20), type := 39, pos := "ether.go:106", after := #[{ on := 12, ground := Ground.data }], guard := none }) rfl (fun K hK => ?_) AllReadyH.nil)
        obtain ⟨g', c', u, hv', U2, U3, U4, U5⟩ := HA.out _ HE.out
        injection hv' with hv1 _ hv2
        injection hv1 with hv1
        injection hv1 with hv1 _
        subst hv1 hv2
        obtain ⟨uA, uc, rfl, -⟩ := U2.form
        generalize p.d.length = um at *
        have HU := Lib.hid U2
        go_simp
        refine hK.out _ _ (trivial) (fun hHeld2 => ?_)
        clear hK K hHeld
        have hHeld := hHeld2
        clear hHeld2
        try simp only [Act.put, List.setIfInBounds_toArray, List.set_cons_zero, List.set_cons_succ]
        clear U2 U3 U4 U5
        refine wpAnyH_ready (rs := [14]) (by kernel_rfl) (by simp) ?_
        refine (AllReadyH.cons (o := { dst := some 22, op := Op.buildSlice 27 1 #[(0, Operand.tmp 21)], type := 27, pos := "ether.go:106", after := #[{ on := 13, ground := Ground.data }], guard := none }) rfl (fun K hK => ?_) AllReadyH.nil)
        go_simp
        refine hK.out _ _ (trivial) (fun hHeld2 => ?_)
        clear hK K hHeld
        have hHeld := hHeld2
        clear hHeld2
        try simp only [Act.put, List.setIfInBounds_toArray, List.set_cons_zero, List.set_cons_succ]
        have BA := (Below.refl wd.heap.size wd).alloc (Nat.le_refl _) (.cells #[.int .i64 (p.f : Int), .int .i64 (p.t : Int), .slice uA um uc] 39)
        have HZ := Lib.hid (heap_alloc_new wd (.cells #[.int .i64 (p.f : Int), .int .i64 (p.t : Int), .slice uA um uc] 39))
        have HE2 := Lib.hid (HE.out.below BA)
        have HU2 := Lib.hid (own_keep HU.out fun g hg => BA.block g (own_ty HU.out hg).2.1)
        have HLO2 := Lib.hid (Nat.le_trans HLO.out BA.size)
        have HW2 := Lib.hid (HW.out.trans (BA.mono HW.out.size))
        clear BA HE HU HLO HW
        generalize wd.alloc _ = wd3 at *
        generalize wd.heap.size = z at *
        generalize wd3 = wd at *
        have HE := HE2
        have HU := HU2
        have HLO := HLO2
        have HW := HW2
        clear HE2 HU2 HLO2 HW2
        refine wpAnyH_ready (rs := [15]) (by kernel_rfl) (by simp) ?_
        refine (AllReadyH.cons (o := { dst := some 23, op := Op.call { callee := Callee.builtin Builtin.append, args := #[Operand.tmp 12, Operand.tmp 22], argTypes := #[27, 27] }, type := 27, pos := "ether.go:106", after := #[{ on := 4, ground := Ground.data }, { on := 14, ground := Ground.data }, { on := 11, ground := Ground.chain }], guard := none }) rfl (fun K hK => ?_) AllReadyH.nil)
        refine step_pk rfl _ _ rfl _ p (.slice uA um uc) z (by simp [Act.eval]) (by simp [Act.eval]) HE.out.sl HU.out HZ.out (by have := hlen.out; omega) HLO.out (fun v2 w2 P2 G2 O2 => ?_)
        have H2 := Lib.hid (HE.out.putP P2 G2 (O2.imp_right fun h => ⟨_, h, Nat.le_refl _⟩))
        obtain ⟨A2, c2, hv2, -⟩ := P2.len
        generalize (l ++ [p]).length = n2 at hv2
        subst hv2
        clear P2 O2 G2
        refine hK.out _ _ (trivial) (fun hHeld2 => ?_)
        clear hK K hHeld
        have hHeld := hHeld2
        clear hHeld2
        try simp only [Act.put, List.setIfInBounds_toArray, List.set_cons_zero, List.set_cons_succ]
        refine wpAnyH_take (i := 16) (oi := { dst := some 24, op := Op.nilCheck (Operand.tmp 8), type := 0, pos := "ether.go:106", after := #[{ on := 0, ground := Ground.data }, { on := 0, ground := Ground.phase }, { on := 1, ground := Ground.phase }, { on := 2, ground := Ground.phase }, { on := 3, ground := Ground.phase }, { on := 4, ground := Ground.phase }, { on := 5, ground := Ground.phase }, { on := 6, ground := Ground.phase }, { on := 7, ground := Ground.phase }, { on := 8, ground := Ground.phase }, { on := 9, ground := Ground.phase }, { on := 10, ground := Ground.phase }, { on := 11, ground := Ground.phase }, { on := 12, ground := Ground.phase }, { on := 13, ground := Ground.phase }, { on := 14, ground := Ground.phase }, { on := 15, ground := Ground.phase }], guard := none }) (v := .pointer (some ⟨q, 0, none⟩)) rfl (by kernel_rfl) (by kernel_rfl) (by kernel_rfl) (fun _ _ _ h => h) (Or.inl ⟨by rfl, fun w hSw => by go_simp⟩) (by assumption) ?_
        try simp only [Act.put, List.setIfInBounds_toArray, List.set_cons_zero, List.set_cons_succ]
        refine wpAnyH_take (i := 17) (oi := { dst := some 25, op := Op.fieldAddr 29 (Operand.tmp 24) 1, type := 0, pos := "ether.go:106", after := #[{ on := 16, ground := Ground.data }, { on := 0, ground := Ground.phase }, { on := 1, ground := Ground.phase }, { on := 2, ground := Ground.phase }, { on := 3, ground := Ground.phase }, { on := 4, ground := Ground.phase }, { on := 5, ground := Ground.phase }, { on := 6, ground := Ground.phase }, { on := 7, ground := Ground.phase }, { on := 8, ground := Ground.phase }, { on := 9, ground := Ground.phase }, { on := 10, ground := Ground.phase }, { on := 11, ground := Ground.phase }, { on := 12, ground := Ground.phase }, { on := 13, ground := Ground.phase }, { on := 14, ground := Ground.phase }, { on := 15, ground := Ground.phase }], guard := none }) (v := .pointer (some ⟨q, 256, none⟩)) rfl (by kernel_rfl) (by kernel_rfl) (by kernel_rfl) (fun _ _ _ h => h) (Or.inl ⟨by rfl, fun w hSw => by go_simp⟩) (by assumption) ?_
        try simp only [Act.put, List.setIfInBounds_toArray, List.set_cons_zero, List.set_cons_succ]
        refine wpAnyH_ready (rs := [18]) (by kernel_rfl) (by simp) ?_
        refine (AllReadyH.cons (o := { dst := none, op := Op.store 27 (Operand.tmp 25) (Operand.tmp 23), type := 0, pos := "ether.go:106", after := #[{ on := 17, ground := Ground.data }, { on := 15, ground := Ground.data }, { on := 15, ground := Ground.chain }, { on := 0, ground := Ground.phase }, { on := 1, ground := Ground.phase }, { on := 2, ground := Ground.phase }, { on := 3, ground := Ground.phase }, { on := 4, ground := Ground.phase }, { on := 5, ground := Ground.phase }, { on := 6, ground := Ground.phase }, { on := 7, ground := Ground.phase }, { on := 8, ground := Ground.phase }, { on := 9, ground := Ground.phase }, { on := 10, ground := Ground.phase }, { on := 11, ground := Ground.phase }, { on := 12, ground := Ground.phase }, { on := 13, ground := Ground.phase }, { on := 14, ground := Ground.phase }, { on := 15, ground := Ground.phase }], guard := none }) rfl (fun K hK => ?_) AllReadyH.nil)
        have c1 := row_under H2.out.1
        have f1 := frozen_of_row _ q 256 _ 29 H2.out.1
        go_simp
        refine hK.out _ _ (trivial) (fun hHeld2 => ?_)
        clear hK K hHeld
        have hHeld := hHeld2
        clear hHeld2
        try simp only [Act.put, List.setIfInBounds_toArray, List.set_cons_zero, List.set_cons_succ]
        try clear c1 f1
        refine wpAnyH_done (by kernel_rfl) ?_ _
        try unfold NoPanic
        have H3 := Lib.hid (And.intro H2.out.2.1 ((EF.of q _ HW.out).trans H2.out.2.2))
        clear H2 HE HU HLO HW HZ
        generalize w2.setCell _ _ = w3 at *
        have cz := lose_any H3.out.1 (by have := hlen.out; simp; omega)
        go_wp2_with (go_at_call 18; (with_reducible refine cz.mono ?_); rintro e w4 ⟨rfl, v4, h4⟩; have H4 := Lib.hid h4; clear h4)
        go_ret
        exact ⟨rfl, v4, H4.out.1, H3.out.2.trans H4.out.2⟩
      · obtain ⟨g', c', u, hv', U2, U3, U4, U5⟩ := HA.out _ HE.out
        injection hv' with hv1 _ hv2
        injection hv1 with hv1
        injection hv1 with hv1 _
        subst hv1 hv2
        obtain ⟨uA, uc, rfl, -⟩ := U2.form
        generalize p.d.length = um at *
        have HU := Lib.hid U2
        go_simp
        refine hK.out _ _ (trivial) (fun hHeld2 => ?_)
        clear hK K hHeld
        have hHeld := hHeld2
        clear hHeld2
        try simp only [Act.put, List.setIfInBounds_toArray, List.set_cons_zero, List.set_cons_succ]
        clear U2 U3 U4 U5
        refine wpAnyH_ready (rs := [4, 14]) (by kernel_rfl) (by simp) ?_
        refine (AllReadyH.cons (o := { dst := some 12, op := Op.load 27 (Operand.tmp 11), type := 27, pos := "ether.go:106", after := #[{ on := 3, ground := Ground.data }], guard := none }) rfl (fun K hK => ?_) (AllReadyH.cons (o := { dst := some 22, op := Op.buildSlice 27 1 #[(0, Operand.tmp 21)], type := 27, pos := "ether.go:106", after := #[{ on := 13, ground := Ground.data }], guard := none }) rfl (fun K hK => ?_) AllReadyH.nil))
        · have c1 := HE.out.under
          go_simp
          refine hK.out _ _ (trivial) (fun hHeld2 => ?_)
          clear hK K hHeld
          have hHeld := hHeld2
          clear hHeld2
          try simp only [Act.put, List.setIfInBounds_toArray, List.set_cons_zero, List.set_cons_succ]
          try clear c1
          refine wpAnyH_ready (rs := [14]) (by kernel_rfl) (by simp) ?_
          refine (AllReadyH.cons (o := { dst := some 22, op := Op.buildSlice 27 1 #[(0, Operand.tmp 21)], type := 27, pos := "ether.go:106", after := #[{ on := 13, ground := Ground.data }], guard := none }) rfl (fun K hK => ?_) AllReadyH.nil)
          go_simp
          refine hK.out _ _ (trivial) (fun hHeld2 => ?_)
          clear hK K hHeld
          have hHeld := hHeld2
          clear hHeld2
          try simp only [Act.put, List.setIfInBounds_toArray, List.set_cons_zero, List.set_cons_succ]
          have BA := (Below.refl wd.heap.size wd).alloc (Nat.le_refl _) (.cells #[.int .i64 (p.f : Int), .int .i64 (p.t : Int), .slice uA um uc] 39)
          have HZ := Lib.hid (heap_alloc_new wd (.cells #[.int .i64 (p.f : Int), .int .i64 (p.t : Int), .slice uA um uc] 39))
          have HE2 := Lib.hid (HE.out.below BA)
          have HU2 := Lib.hid (own_keep HU.out fun g hg => BA.block g (own_ty HU.out hg).2.1)
          have HLO2 := Lib.hid (Nat.le_trans HLO.out BA.size)
          have HW2 := Lib.hid (HW.out.trans (BA.mono HW.out.size))
          clear BA HE HU HLO HW
          generalize wd.alloc _ = wd3 at *
          generalize wd.heap.size = z at *
          generalize wd3 = wd at *
          have HE := HE2
          have HU := HU2
          have HLO := HLO2
          have HW := HW2
          clear HE2 HU2 HLO2 HW2
          refine wpAnyH_ready (rs := [15]) (by kernel_rfl) (by simp) ?_
          refine (AllReadyH.cons (o := { dst := some 23, op := Op.call { callee := Callee.builtin Builtin.append, args := #[Operand.tmp 12, Operand.tmp 22], argTypes := #[27, 27] }, type := 27, pos := "ether.go:106", after := #[{ on := 4, ground := Ground.data }, { on := 14, ground := Ground.data }, { on := 11, ground := Ground.chain }], guard := none }) rfl (fun K hK => ?_) AllReadyH.nil)
          refine step_pk rfl _ _ rfl _ p (.slice uA um uc) z (by simp [Act.eval]) (by simp [Act.eval]) HE.out.sl HU.out HZ.out (by have := hlen.out; omega) HLO.out (fun v2 w2 P2 G2 O2 => ?_)
          have H2 := Lib.hid (HE.out.putP P2 G2 (O2.imp_right fun h => ⟨_, h, Nat.le_refl _⟩))
          obtain ⟨A2, c2, hv2, -⟩ := P2.len
          generalize (l ++ [p]).length = n2 at hv2
          subst hv2
          clear P2 O2 G2
          refine hK.out _ _ (trivial) (fun hHeld2 => ?_)
          clear hK K hHeld
          have hHeld := hHeld2
          clear hHeld2
          try simp only [Act.put, List.setIfInBounds_toArray, List.set_cons_zero, List.set_cons_succ]
          refine wpAnyH_take (i := 16) (oi := { dst := some 24, op := Op.nilCheck (Operand.tmp 8), type := 0, pos := "ether.go:106", after := #[{ on := 0, ground := Ground.data }, { on := 0, ground := Ground.phase }, { on := 1, ground := Ground.phase }, { on := 2, ground := Ground.phase }, { on := 3, ground := Ground.phase }, { on := 4, ground := Ground.phase }, { on := 5, ground := Ground.phase }, { on := 6, ground := Ground.phase }, { on := 7, ground := Ground.phase }, { on := 8, ground := Ground.phase }, { on := 9, ground := Ground.phase }, { on := 10, ground := Ground.phase }, { on := 11, ground := Ground.phase }, { on := 12, ground := Ground.phase }, { on := 13, ground := Ground.phase }, { on := 14, ground := Ground.phase }, { on := 15, ground := Ground.phase }], guard := none }) (v := .pointer (some ⟨q, 0, none⟩)) rfl (by kernel_rfl) (by kernel_rfl) (by kernel_rfl) (fun _ _ _ h => h) (Or.inl ⟨by rfl, fun w hSw => by go_simp⟩) (by assumption) ?_
          try simp only [Act.put, List.setIfInBounds_toArray, List.set_cons_zero, List.set_cons_succ]
          refine wpAnyH_take (i := 17) (oi := { dst := some 25, op := Op.fieldAddr 29 (Operand.tmp 24) 1, type := 0, pos := "ether.go:106", after := #[{ on := 16, ground := Ground.data }, { on := 0, ground := Ground.phase }, { on := 1, ground := Ground.phase }, { on := 2, ground := Ground.phase }, { on := 3, ground := Ground.phase }, { on := 4, ground := Ground.phase }, { on := 5, ground := Ground.phase }, { on := 6, ground := Ground.phase }, { on := 7, ground := Ground.phase }, { on := 8, ground := Ground.phase }, { on := 9, ground := Ground.phase }, { on := 10, ground := Ground.phase }, { on := 11, ground := Ground.phase }, { on := 12, ground := Ground.phase }, { on := 13, ground := Ground.phase }, { on := 14, ground := Ground.phase }, { on := 15, ground := Ground.phase }], guard := none }) (v := .pointer (some ⟨q, 256, none⟩)) rfl (by kernel_rfl) (by kernel_rfl) (by kernel_rfl) (fun _ _ _ h => h) (Or.inl ⟨by rfl, fun w hSw => by go_simp⟩) (by assumption) ?_
          try simp only [Act.put, List.setIfInBounds_toArray, List.set_cons_zero, List.set_cons_succ]
          refine wpAnyH_ready (rs := [18]) (by kernel_rfl) (by simp) ?_
          refine (AllReadyH.cons (o := { dst := none, op := Op.store 27 (Operand.tmp 25) (Operand.tmp 23), type := 0, pos := "ether.go:106", after := #[{ on := 17, ground := Ground.data }, { on := 15, ground := Ground.data }, { on := 15, ground := Ground.chain }, { on := 0, ground := Ground.phase }, { on := 1, ground := Ground.phase }, { on := 2, ground := Ground.phase }, { on := 3, ground := Ground.phase }, { on := 4, ground := Ground.phase }, { on := 5, ground := Ground.phase }, { on := 6, ground := Ground.phase }, { on := 7, ground := Ground.phase }, { on := 8, ground := Ground.phase }, { on := 9, ground := Ground.phase }, { on := 10, ground := Ground.phase }, { on := 11, ground := Ground.phase }, { on := 12, ground := Ground.phase }, { on := 13, ground := Ground.phase }, { on := 14, ground := Ground.phase }, { on := 15, ground := Ground.phase }], guard := none }) rfl (fun K hK => ?_) AllReadyH.nil)
          have c1 := row_under H2.out.1
          have f1 := frozen_of_row _ q 256 _ 29 H2.out.1
          go_simp
          refine hK.out _ _ (trivial) (fun hHeld2 => ?_)
          clear hK K hHeld
          have hHeld := hHeld2
          clear hHeld2
          try simp only [Act.put, List.setIfInBounds_toArray, List.set_cons_zero, List.set_cons_succ]
          try clear c1 f1
          refine wpAnyH_done (by kernel_rfl) ?_ _
          try unfold NoPanic
          have H3 := Lib.hid (And.intro H2.out.2.1 ((EF.of q _ HW.out).trans H2.out.2.2))
          clear H2 HE HU HLO HW HZ
          generalize w2.setCell _ _ = w3 at *
          have cz := lose_any H3.out.1 (by have := hlen.out; simp; omega)
          go_wp2_with (go_at_call 18; (with_reducible refine cz.mono ?_); rintro e w4 ⟨rfl, v4, h4⟩; have H4 := Lib.hid h4; clear h4)
          go_ret
          exact ⟨rfl, v4, H4.out.1, H3.out.2.trans H4.out.2⟩
        · go_simp
          refine hK.out _ _ (trivial) (fun hHeld2 => ?_)
          clear hK K hHeld
          have hHeld := hHeld2
          clear hHeld2
          try simp only [Act.put, List.setIfInBounds_toArray, List.set_cons_zero, List.set_cons_succ]
          have BA := (Below.refl wd.heap.size wd).alloc (Nat.le_refl _) (.cells #[.int .i64 (p.f : Int), .int .i64 (p.t : Int), .slice uA um uc] 39)
          have HZ := Lib.hid (heap_alloc_new wd (.cells #[.int .i64 (p.f : Int), .int .i64 (p.t : Int), .slice uA um uc] 39))
          have HE2 := Lib.hid (HE.out.below BA)
          have HU2 := Lib.hid (own_keep HU.out fun g hg => BA.block g (own_ty HU.out hg).2.1)
          have HLO2 := Lib.hid (Nat.le_trans HLO.out BA.size)
          have HW2 := Lib.hid (HW.out.trans (BA.mono HW.out.size))
          clear BA HE HU HLO HW
          generalize wd.alloc _ = wd3 at *
          generalize wd.heap.size = z at *
          generalize wd3 = wd at *
          have HE := HE2
          have HU := HU2
          have HLO := HLO2
          have HW := HW2
          clear HE2 HU2 HLO2 HW2
          refine wpAnyH_ready (rs := [4]) (by kernel_rfl) (by simp) ?_
          refine (AllReadyH.cons (o := { dst := some 12, op := Op.load 27 (Operand.tmp 11), type := 27, pos := "ether.go:106", after := #[{ on := 3, ground := Ground.data }], guard := none }) rfl (fun K hK => ?_) AllReadyH.nil)
          have c1 := HE.out.under
          go_simp
          refine hK.out _ _ (trivial) (fun hHeld2 => ?_)
          clear hK K hHeld
          have hHeld := hHeld2
          clear hHeld2
          try simp only [Act.put, List.setIfInBounds_toArray, List.set_cons_zero, List.set_cons_succ]
          try clear c1
          refine wpAnyH_ready (rs := [15]) (by kernel_rfl) (by simp) ?_
          refine (AllReadyH.cons (o := { dst := some 23, op := Op.call { callee := Callee.builtin Builtin.append, args := #[Operand.tmp 12, Operand.tmp 22], argTypes := #[27, 27] }, type := 27, pos := "ether.go:106", after := #[{ on := 4, ground := Ground.data }, { on := 14, ground := Ground.data }, { on := 11, ground := Ground.chain }], guard := none }) rfl (fun K hK => ?_) AllReadyH.nil)
          refine step_pk rfl _ _ rfl _ p (.slice uA um uc) z (by simp [Act.eval]) (by simp [Act.eval]) HE.out.sl HU.out HZ.out (by have := hlen.out; omega) HLO.out (fun v2 w2 P2 G2 O2 => ?_)
          have H2 := Lib.hid (HE.out.putP P2 G2 (O2.imp_right fun h => ⟨_, h, Nat.le_refl _⟩))
          obtain ⟨A2, c2, hv2, -⟩ := P2.len
          generalize (l ++ [p]).length = n2 at hv2
          subst hv2
          clear P2 O2 G2
          refine hK.out _ _ (trivial) (fun hHeld2 => ?_)
          clear hK K hHeld
          have hHeld := hHeld2
          clear hHeld2
          try simp only [Act.put, List.setIfInBounds_toArray, List.set_cons_zero, List.set_cons_succ]
          refine wpAnyH_take (i := 16) (oi := { dst := some 24, op := Op.nilCheck (Operand.tmp 8), type := 0, pos := "ether.go:106", after := #[{ on := 0, ground := Ground.data }, { on := 0, ground := Ground.phase }, { on := 1, ground := Ground.phase }, { on := 2, ground := Ground.phase }, { on := 3, ground := Ground.phase }, { on := 4, ground := Ground.phase }, { on := 5, ground := Ground.phase }, { on := 6, ground := Ground.phase }, { on := 7, ground := Ground.phase }, { on := 8, ground := Ground.phase }, { on := 9, ground := Ground.phase }, { on := 10, ground := Ground.phase }, { on := 11, ground := Ground.phase }, { on := 12, ground := Ground.phase }, { on := 13, ground := Ground.phase }, { on := 14, ground := Ground.phase }, { on := 15, ground := Ground.phase }], guard := none }) (v := .pointer (some ⟨q, 0, none⟩)) rfl (by kernel_rfl) (by kernel_rfl) (by kernel_rfl) (fun _ _ _ h => h) (Or.inl ⟨by rfl, fun w hSw => by go_simp⟩) (by assumption) ?_
          try simp only [Act.put, List.setIfInBounds_toArray, List.set_cons_zero, List.set_cons_succ]
          refine wpAnyH_take (i := 17) (oi := { dst := some 25, op := Op.fieldAddr 29 (Operand.tmp 24) 1, type := 0, pos := "ether.go:106", after := #[{ on := 16, ground := Ground.data }, { on := 0, ground := Ground.phase }, { on := 1, ground := Ground.phase }, { on := 2, ground := Ground.phase }, { on := 3, ground := Ground.phase }, { on := 4, ground := Ground.phase }, { on := 5, ground := Ground.phase }, { on := 6, ground := Ground.phase }, { on := 7, ground := Ground.phase }, { on := 8, ground := Ground.phase }, { on := 9, ground := Ground.phase }, { on := 10, ground := Ground.phase }, { on := 11, ground := Ground.phase }, { on := 12, ground := Ground.phase }, { on := 13, ground := Ground.phase }, { on := 14, ground := Ground.phase }, { on := 15, ground := Ground.phase }], guard := none }) (v := .pointer (some ⟨q, 256, none⟩)) rfl (by kernel_rfl) (by kernel_rfl) (by kernel_rfl) (fun _ _ _ h => h) (Or.inl ⟨by rfl, fun w hSw => by go_simp⟩) (by assumption) ?_
          try simp only [Act.put, List.setIfInBounds_toArray, List.set_cons_zero, List.set_cons_succ]
          refine wpAnyH_ready (rs := [18]) (by kernel_rfl) (by simp) ?_
          refine (AllReadyH.cons (o := { dst := none, op := Op.store 27 (Operand.tmp 25) (Operand.tmp 23), type := 0, pos := "ether.go:106", after := #[{ on := 17, ground := Ground.data }, { on := 15, ground := Ground.data }, { on := 15, ground := Ground.chain }, { on := 0, ground := Ground.phase }, { on := 1, ground := Ground.phase }, { on := 2, ground := Ground.phase }, { on := 3, ground := Ground.phase }, { on := 4, ground := Ground.phase }, { on := 5, ground := Ground.phase }, { on := 6, ground := Ground.phase }, { on := 7, ground := Ground.phase }, { on := 8, ground := Ground.phase }, { on := 9, ground := Ground.phase }, { on := 10, ground := Ground.phase }, { on := 11, ground := Ground.phase }, { on := 12, ground := Ground.phase }, { on := 13, ground := Ground.phase }, { on := 14, ground := Ground.phase }, { on := 15, ground := Ground.phase }], guard := none }) rfl (fun K hK => ?_) AllReadyH.nil)
          have c1 := row_under H2.out.1
          have f1 := frozen_of_row _ q 256 _ 29 H2.out.1
          go_simp
          refine hK.out _ _ (trivial) (fun hHeld2 => ?_)
          clear hK K hHeld
          have hHeld := hHeld2
          clear hHeld2
          try simp only [Act.put, List.setIfInBounds_toArray, List.set_cons_zero, List.set_cons_succ]
          try clear c1 f1
          refine wpAnyH_done (by kernel_rfl) ?_ _
          try unfold NoPanic
          have H3 := Lib.hid (And.intro H2.out.2.1 ((EF.of q _ HW.out).trans H2.out.2.2))
          clear H2 HE HU HLO HW HZ
          generalize w2.setCell _ _ = w3 at *
          have cz := lose_any H3.out.1 (by have := hlen.out; simp; omega)
          go_wp2_with (go_at_call 18; (with_reducible refine cz.mono ?_); rintro e w4 ⟨rfl, v4, h4⟩; have H4 := Lib.hid h4; clear h4)
          go_ret
          exact ⟨rfl, v4, H4.out.1, H3.out.2.trans H4.out.2⟩
  · go_simp
    with_reducible refine (HP.out _ HE.out).mono ?_
    rintro e w2 ⟨rfl, rfl⟩
    refine hK.out _ _ (trivial) (fun hHeld2 => ?_)
    clear hK K hHeld
    have hHeld := hHeld2
    clear hHeld2
    try simp only [Act.put, List.setIfInBounds_toArray, List.set_cons_zero, List.set_cons_succ]
    refine wpAnyH_ready (rs := [4, 8]) (by kernel_rfl) (by simp) ?_
    refine (AllReadyH.cons (o := { dst := some 12, op := Op.load 27 (Operand.tmp 11), type := 27, pos := "ether.go:106", after := #[{ on := 3, ground := Ground.data }], guard := none }) rfl (fun K hK => ?_) (AllReadyH.cons (o := { dst := some 16, op := Op.load 27 (Operand.tmp 15), type := 27, pos := "ether.go:106", after := #[{ on := 7, ground := Ground.data }], guard := none }) rfl (fun K hK => ?_) AllReadyH.nil))
    · have c1 := HE.out.under
      go_simp
      refine hK.out _ _ (trivial) (fun hHeld2 => ?_)
      clear hK K hHeld
      have hHeld := hHeld2
      clear hHeld2
      try simp only [Act.put, List.setIfInBounds_toArray, List.set_cons_zero, List.set_cons_succ]
      try clear c1
      refine wpAnyH_ready (rs := [8]) (by kernel_rfl) (by simp) ?_
      refine (AllReadyH.cons (o := { dst := some 16, op := Op.load 27 (Operand.tmp 15), type := 27, pos := "ether.go:106", after := #[{ on := 7, ground := Ground.data }], guard := none }) rfl (fun K hK => ?_) AllReadyH.nil)
      have c1 := HE.out.under
      go_simp
      refine hK.out _ _ (trivial) (fun hHeld2 => ?_)
      clear hK K hHeld
      have hHeld := hHeld2
      clear hHeld2
      try simp only [Act.put, List.setIfInBounds_toArray, List.set_cons_zero, List.set_cons_succ]
      try clear c1
      refine wpAnyH_take (i := 12) (oi := { dst := some 20, op := Op.indexAddr 27 (Operand.tmp 16) (Operand.tmp 19), type := 0, pos := "ether.go:106", after := #[{ on := 8, ground := Ground.data }, { on := 11, ground := Ground.data }], guard := none }) (v := .pointer (some ⟨g, k * 3, none⟩)) rfl (by kernel_rfl) (by kernel_rfl) (by kernel_rfl) (fun _ _ _ h => h) (Or.inl ⟨by rfl, fun w hSw => by go_simp⟩) (by assumption) ?_
      try simp only [Act.put, List.setIfInBounds_toArray, List.set_cons_zero, List.set_cons_succ]
      refine wpAnyH_ready (rs := [13]) (by kernel_rfl) (by simp) ?_
      refine (AllReadyH.cons (o := { dst := some 21, op := Op.load 39 (Operand.tmp 20), type := 39, pos := "ether.go:106", after := #[{ on := 12, ground := Ground.data }], guard := none }) rfl (fun K hK => ?_) AllReadyH.nil)
      obtain ⟨g', c', u, hv', U2, U3, U4, U5⟩ := HA.out _ HE.out
      injection hv' with hv1 _ hv2
      injection hv1 with hv1
      injection hv1 with hv1 _
      subst hv1 hv2
      obtain ⟨uA, uc, rfl, -⟩ := U2.form
      generalize p.d.length = um at *
      have HU := Lib.hid U2
      go_simp
      refine hK.out _ _ (trivial) (fun hHeld2 => ?_)
      clear hK K hHeld
      have hHeld := hHeld2
      clear hHeld2
      try simp only [Act.put, List.setIfInBounds_toArray, List.set_cons_zero, List.set_cons_succ]
      clear U2 U3 U4 U5
      refine wpAnyH_ready (rs := [14]) (by kernel_rfl) (by simp) ?_
      refine (AllReadyH.cons (o := { dst := some 22, op := Op.buildSlice 27 1 #[(0, Operand.tmp 21)], type := 27, pos := "ether.go:106", after := #[{ on := 13, ground := Ground.data }], guard := none }) rfl (fun K hK => ?_) AllReadyH.nil)
      go_simp
      refine hK.out _ _ (trivial) (fun hHeld2 => ?_)
      clear hK K hHeld
      have hHeld := hHeld2
      clear hHeld2
      try simp only [Act.put, List.setIfInBounds_toArray, List.set_cons_zero, List.set_cons_succ]
      have BA := (Below.refl wd.heap.size wd).alloc (Nat.le_refl _) (.cells #[.int .i64 (p.f : Int), .int .i64 (p.t : Int), .slice uA um uc] 39)
      have HZ := Lib.hid (heap_alloc_new wd (.cells #[.int .i64 (p.f : Int), .int .i64 (p.t : Int), .slice uA um uc] 39))
      have HE2 := Lib.hid (HE.out.below BA)
      have HU2 := Lib.hid (own_keep HU.out fun g hg => BA.block g (own_ty HU.out hg).2.1)
      have HLO2 := Lib.hid (Nat.le_trans HLO.out BA.size)
      have HW2 := Lib.hid (HW.out.trans (BA.mono HW.out.size))
      clear BA HE HU HLO HW
      generalize wd.alloc _ = wd3 at *
      generalize wd.heap.size = z at *
      generalize wd3 = wd at *
      have HE := HE2
      have HU := HU2
      have HLO := HLO2
      have HW := HW2
      clear HE2 HU2 HLO2 HW2
      refine wpAnyH_ready (rs := [15]) (by kernel_rfl) (by simp) ?_
      refine (AllReadyH.cons (o := { dst := some 23, op := Op.call { callee := Callee.builtin Builtin.append, args := #[Operand.tmp 12, Operand.tmp 22], argTypes := #[27, 27] }, type := 27, pos := "ether.go:106", after := #[{ on := 4, ground := Ground.data }, { on := 14, ground := Ground.data }, { on := 11, ground := Ground.chain }], guard := none }) rfl (fun K hK => ?_) AllReadyH.nil)
      refine step_pk rfl _ _ rfl _ p (.slice uA um uc) z (by simp [Act.eval]) (by simp [Act.eval]) HE.out.sl HU.out HZ.out (by have := hlen.out; omega) HLO.out (fun v2 w2 P2 G2 O2 => ?_)
      have H2 := Lib.hid (HE.out.putP P2 G2 (O2.imp_right fun h => ⟨_, h, Nat.le_refl _⟩))
      obtain ⟨A2, c2, hv2, -⟩ := P2.len
      generalize (l ++ [p]).length = n2 at hv2
      subst hv2
      clear P2 O2 G2
      refine hK.out _ _ (trivial) (fun hHeld2 => ?_)
      clear hK K hHeld
      have hHeld := hHeld2
      clear hHeld2
      try simp only [Act.put, List.setIfInBounds_toArray, List.set_cons_zero, List.set_cons_succ]
      refine wpAnyH_take (i := 16) (oi := { dst := some 24, op := Op.nilCheck (Operand.tmp 8), type := 0, pos := "ether.go:106", after := #[{ on := 0, ground := Ground.data }, { on := 0, ground := Ground.phase }, { on := 1, ground := Ground.phase }, { on := 2, ground := Ground.phase }, { on := 3, ground := Ground.phase }, { on := 4, ground := Ground.phase }, { on := 5, ground := Ground.phase }, { on := 6, ground := Ground.phase }, { on := 7, ground := Ground.phase }, { on := 8, ground := Ground.phase }, { on := 9, ground := Ground.phase }, { on := 10, ground := Ground.phase }, { on := 11, ground := Ground.phase }, { on := 12, ground := Ground.phase }, { on := 13, ground := Ground.phase }, { on := 14, ground := Ground.phase }, { on := 15, ground := Ground.phase }], guard := none }) (v := .pointer (some ⟨q, 0, none⟩)) rfl (by kernel_rfl) (by kernel_rfl) (by kernel_rfl) (fun _ _ _ h => h) (Or.inl ⟨by rfl, fun w hSw => by go_simp⟩) (by assumption) ?_
      try simp only [Act.put, List.setIfInBounds_toArray, List.set_cons_zero, List.set_cons_succ]
      refine wpAnyH_take (i := 17) (oi := { dst := some 25, op := Op.fieldAddr 29 (Operand.tmp 24) 1, type := 0, pos := "ether.go:106", after := #[{ on := 16, ground := Ground.data }, { on := 0, ground := Ground.phase }, { on := 1, ground := Ground.phase }, { on := 2, ground := Ground.phase }, { on := 3, ground := Ground.phase }, { on := 4, ground := Ground.phase }, { on := 5, ground := Ground.phase }, { on := 6, ground := Ground.phase }, { on := 7, ground := Ground.phase }, { on := 8, ground := Ground.phase }, { on := 9, ground := Ground.phase }, { on := 10, ground := Ground.phase }, { on := 11, ground := Ground.phase }, { on := 12, ground := Ground.phase }, { on := 13, ground := Ground.phase }, { on := 14, ground := Ground.phase }, { on := 15, ground := Ground.phase }], guard := none }) (v := .pointer (some ⟨q, 256, none⟩)) rfl (by kernel_rfl) (by kernel_rfl) (by kernel_rfl) (fun _ _ _ h => h) (Or.inl ⟨by rfl, fun w hSw => by go_simp⟩) (by assumption) ?_
      try simp only [Act.put, List.setIfInBounds_toArray, List.set_cons_zero, List.set_cons_succ]
      refine wpAnyH_ready (rs := [18]) (by kernel_rfl) (by simp) ?_
      refine (AllReadyH.cons (o := { dst := none, op := Op.store 27 (Operand.tmp 25) (Operand.tmp 23), type := 0, pos := "ether.go:106", after := #[{ on := 17, ground := Ground.data }, { on := 15, ground := Ground.data }, { on := 15, ground := Ground.chain }, { on := 0, ground := Ground.phase }, { on := 1, ground := Ground.phase }, { on := 2, ground := Ground.phase }, { on := 3, ground := Ground.phase }, { on := 4, ground := Ground.phase }, { on := 5, ground := Ground.phase }, { on := 6, ground := Ground.phase }, { on := 7, ground := Ground.phase }, { on := 8, ground := Ground.phase }, { on := 9, ground := Ground.phase }, { on := 10, ground := Ground.phase }, { on := 11, ground := Ground.phase }, { on := 12, ground := Ground.phase }, { on := 13, ground := Ground.phase }, { on := 14, ground := Ground.phase }, { on := 15, ground := Ground.phase }], guard := none }) rfl (fun K hK => ?_) AllReadyH.nil)
      have c1 := row_under H2.out.1
      have f1 := frozen_of_row _ q 256 _ 29 H2.out.1
      go_simp
      refine hK.out _ _ (trivial) (fun hHeld2 => ?_)
      clear hK K hHeld
      have hHeld := hHeld2
      clear hHeld2
      try simp only [Act.put, List.setIfInBounds_toArray, List.set_cons_zero, List.set_cons_succ]
      try clear c1 f1
      refine wpAnyH_done (by kernel_rfl) ?_ _
      try unfold NoPanic
      have H3 := Lib.hid (And.intro H2.out.2.1 ((EF.of q _ HW.out).trans H2.out.2.2))
      clear H2 HE HU HLO HW HZ
      generalize w2.setCell _ _ = w3 at *
      have cz := lose_any H3.out.1 (by have := hlen.out; simp; omega)
      go_wp2_with (go_at_call 18; (with_reducible refine cz.mono ?_); rintro e w4 ⟨rfl, v4, h4⟩; have H4 := Lib.hid h4; clear h4)
      go_ret
      exact ⟨rfl, v4, H4.out.1, H3.out.2.trans H4.out.2⟩
    · have c1 := HE.out.under
      go_simp
      refine hK.out _ _ (trivial) (fun hHeld2 => ?_)
      clear hK K hHeld
      have hHeld := hHeld2
      clear hHeld2
      try simp only [Act.put, List.setIfInBounds_toArray, List.set_cons_zero, List.set_cons_succ]
      try clear c1
      refine wpAnyH_take (i := 12) (oi := { dst := some 20, op := Op.indexAddr 27 (Operand.tmp 16) (Operand.tmp 19), type := 0, pos := "ether.go:106", after := #[{ on := 8, ground := Ground.data }, { on := 11, ground := Ground.data }], guard := none }) (v := .pointer (some ⟨g, k * 3, none⟩)) rfl (by kernel_rfl) (by kernel_rfl) (by kernel_rfl) (fun _ _ _ h => h) (Or.inl ⟨by rfl, fun w hSw => by go_simp⟩) (by assumption) ?_
      try simp only [Act.put, List.setIfInBounds_toArray, List.set_cons_zero, List.set_cons_succ]
      refine wpAnyH_ready (rs := [4, 13]) (by kernel_rfl) (by simp) ?_
      refine (AllReadyH.cons (o := { dst := some 12, op := Op.load 27 (Operand.tmp 11), type := 27, pos := "ether.go:106", after := #[{ on := 3, ground := Ground.data }], guard := none }) rfl (fun K hK => ?_) (AllReadyH.cons (o := { dst := some 21, op := Op.load 39 (Operand.tmp 20), type := 39, pos := "ether.go:106", after := #[{ on := 12, ground := Ground.data }], guard := none }) rfl (fun K hK => ?_) AllReadyH.nil))
      · have c1 := HE.out.under
        go_simp
        refine hK.out _ _ (trivial) (fun hHeld2 => ?_)
        clear hK K hHeld
        have hHeld := hHeld2
        clear hHeld2
        try simp only [Act.put, List.setIfInBounds_toArray, List.set_cons_zero, List.set_cons_succ]
        try clear c1
        refine wpAnyH_ready (rs := [13]) (by kernel_rfl) (by simp) ?_
        refine (AllReadyH.cons (o := { dst := some 21, op := Op.load 39 (Operand.tmp 20), type := 39, pos := "ether.go:106", after := #[{ on := 12, ground := Ground.data }], guard := none }) rfl (fun K hK => ?_) AllReadyH.nil)
        obtain ⟨g', c', u, hv', U2, U3, U4, U5⟩ := HA.out _ HE.out
        injection hv' with hv1 _ hv2
        injection hv1 with hv1
        injection hv1 with hv1 _
        subst hv1 hv2
        obtain ⟨uA, uc, rfl, -⟩ := U2.form
        generalize p.d.length = um at *
        have HU := Lib.hid U2
        go_simp
        refine hK.out _ _ (trivial) (fun hHeld2 => ?_)
        clear hK K hHeld
        have hHeld := hHeld2
        clear hHeld2
        try simp only [Act.put, List.setIfInBounds_toArray, List.set_cons_zero, List.set_cons_succ]
        clear U2 U3 U4 U5
        refine wpAnyH_ready (rs := [14]) (by kernel_rfl) (by simp) ?_
        refine (AllReadyH.cons (o := { dst := some 22, op := Op.buildSlice 27 1 #[(0, Operand.tmp 21)], type := 27, pos := "ether.go:106", after := #[{ on := 13, ground := Ground.data }], guard := none }) rfl (fun K hK => ?_) AllReadyH.nil)
        go_simp
        refine hK.out _ _ (trivial) (fun hHeld2 => ?_)
        clear hK K hHeld
        have hHeld := hHeld2
        clear hHeld2
        try simp only [Act.put, List.setIfInBounds_toArray, List.set_cons_zero, List.set_cons_succ]
        have BA := (Below.refl wd.heap.size wd).alloc (Nat.le_refl _) (.cells #[.int .i64 (p.f : Int), .int .i64 (p.t : Int), .slice uA um uc] 39)
        have HZ := Lib.hid (heap_alloc_new wd (.cells #[.int .i64 (p.f : Int), .int .i64 (p.t : Int), .slice uA um uc] 39))
        have HE2 := Lib.hid (HE.out.below BA)
        have HU2 := Lib.hid (own_keep HU.out fun g hg => BA.block g (own_ty HU.out hg).2.1)
        have HLO2 := Lib.hid (Nat.le_trans HLO.out BA.size)
        have HW2 := Lib.hid (HW.out.trans (BA.mono HW.out.size))
        clear BA HE HU HLO HW
        generalize wd.alloc _ = wd3 at *
        generalize wd.heap.size = z at *
        generalize wd3 = wd at *
        have HE := HE2
        have HU := HU2
        have HLO := HLO2
        have HW := HW2
        clear HE2 HU2 HLO2 HW2
        refine wpAnyH_ready (rs := [15]) (by kernel_rfl) (by simp) ?_
        refine (AllReadyH.cons (o := { dst := some 23, op := Op.call { callee := Callee.builtin Builtin.append, args := #[Operand.tmp 12, Operand.tmp 22], argTypes := #[27, 27] }, type := 27, pos := "ether.go:106", after := #[{ on := 4, ground := Ground.data }, { on := 14, ground := Ground.data }, { on := 11, ground := Ground.chain }], guard := none }) rfl (fun K hK => ?_) AllReadyH.nil)
        refine step_pk rfl _ _ rfl _ p (.slice uA um uc) z (by simp [Act.eval]) (by simp [Act.eval]) HE.out.sl HU.out HZ.out (by have := hlen.out; omega) HLO.out (fun v2 w2 P2 G2 O2 => ?_)
        have H2 := Lib.hid (HE.out.putP P2 G2 (O2.imp_right fun h => ⟨_, h, Nat.le_refl _⟩))
        obtain ⟨A2, c2, hv2, -⟩ := P2.len
        generalize (l ++ [p]).length = n2 at hv2
        subst hv2
        clear P2 O2 G2
        refine hK.out _ _ (trivial) (fun hHeld2 => ?_)
        clear hK K hHeld
        have hHeld := hHeld2
        clear hHeld2
        try simp only [Act.put, List.setIfInBounds_toArray, List.set_cons_zero, List.set_cons_succ]
        refine wpAnyH_take (i := 16) (oi := { dst := some 24, op := Op.nilCheck (Operand.tmp 8), type := 0, pos := "ether.go:106", after := #[{ on := 0, ground := Ground.data }, { on := 0, ground := Ground.phase }, { on := 1, ground := Ground.phase }, { on := 2, ground := Ground.phase }, { on := 3, ground := Ground.phase }, { on := 4, ground := Ground.phase }, { on := 5, ground := Ground.phase }, { on := 6, ground := Ground.phase }, { on := 7, ground := Ground.phase }, { on := 8, ground := Ground.phase }, { on := 9, ground := Ground.phase }, { on := 10, ground := Ground.phase }, { on := 11, ground := Ground.phase }, { on := 12, ground := Ground.phase }, { on := 13, ground := Ground.phase }, { on := 14, ground := Ground.phase }, { on := 15, ground := Ground.phase }], guard := none }) (v := .pointer (some ⟨q, 0, none⟩)) rfl (by kernel_rfl) (by kernel_rfl) (by kernel_rfl) (fun _ _ _ h => h) (Or.inl ⟨by rfl, fun w hSw => by go_simp⟩) (by assumption) ?_
        try simp only [Act.put, List.setIfInBounds_toArray, List.set_cons_zero, List.set_cons_succ]
        refine wpAnyH_take (i := 17) (oi := { dst := some 25, op := Op.fieldAddr 29 (Operand.tmp 24) 1, type := 0, pos := "ether.go:106", after := #[{ on := 16, ground := Ground.data }, { on := 0, ground := Ground.phase }, { on := 1, ground := Ground.phase }, { on := 2, ground := Ground.phase }, { on := 3, ground := Ground.phase }, { on := 4, ground := Ground.phase }, { on := 5, ground := Ground.phase }, { on := 6, ground := Ground.phase }, { on := 7, ground := Ground.phase }, { on := 8, ground := Ground.phase }, { on := 9, ground := Ground.phase }, { on := 10, ground := Ground.phase }, { on := 11, ground := Ground.phase }, { on := 12, ground := Ground.phase }, { on := 13, ground := Ground.phase }, { on := 14, ground := Ground.phase }, { on := 15, ground := Ground.phase }], guard := none }) (v := .pointer (some ⟨q, 256, none⟩)) rfl (by kernel_rfl) (by kernel_rfl) (by kernel_rfl) (fun _ _ _ h => h) (Or.inl ⟨by rfl, fun w hSw => by go_simp⟩) (by assumption) ?_
        try simp only [Act.put, List.setIfInBounds_toArray, List.set_cons_zero, List.set_cons_succ]
        refine wpAnyH_ready (rs := [18]) (by kernel_rfl) (by simp) ?_
        refine (AllReadyH.cons (o := { dst := none, op := Op.store 27 (Operand.tmp 25) (Operand.tmp 23), type := 0, pos := "ether.go:106", after := #[{ on := 17, ground := Ground.data }, { on := 15, ground := Ground.data }, { on := 15, ground := Ground.chain }, { on := 0, ground := Ground.phase }, { on := 1, ground := Ground.phase }, { on := 2, ground := Ground.phase }, { on := 3, ground := Ground.phase }, { on := 4, ground := Ground.phase }, { on := 5, ground := Ground.phase }, { on := 6, ground := Ground.phase }, { on := 7, ground := Ground.phase }, { on := 8, ground := Ground.phase }, { on := 9, ground := Ground.phase }, { on := 10, ground := Ground.phase }, { on := 11, ground := Ground.phase }, { on := 12, ground := Ground.phase }, { on := 13, ground := Ground.phase }, { on := 14, ground := Ground.phase }, { on := 15, ground := Ground.phase }], guard := none }) rfl (fun K hK => ?_) AllReadyH.nil)
        have c1 := row_under H2.out.1
        have f1 := frozen_of_row _ q 256 _ 29 H2.out.1
        go_simp
        refine hK.out _ _ (trivial) (fun hHeld2 => ?_)
        clear hK K hHeld
        have hHeld := hHeld2
        clear hHeld2
        try simp only [Act.put, List.setIfInBounds_toArray, List.set_cons_zero, List.set_cons_succ]
        try clear c1 f1
        refine wpAnyH_done (by kernel_rfl) ?_ _
        try unfold NoPanic
        have H3 := Lib.hid (And.intro H2.out.2.1 ((EF.of q _ HW.out).trans H2.out.2.2))
        clear H2 HE HU HLO HW HZ
        generalize w2.setCell _ _ = w3 at *
        have cz := lose_any H3.out.1 (by have := hlen.out; simp; omega)
        go_wp2_with (go_at_call 18; (with_reducible refine cz.mono ?_); rintro e w4 ⟨rfl, v4, h4⟩; have H4 := Lib.hid h4; clear h4)
        go_ret
        exact ⟨rfl, v4, H4.out.1, H3.out.2.trans H4.out.2⟩
      · obtain ⟨g', c', u, hv', U2, U3, U4, U5⟩ := HA.out _ HE.out
        injection hv' with hv1 _ hv2
        injection hv1 with hv1
        injection hv1 with hv1 _
        subst hv1 hv2
        obtain ⟨uA, uc, rfl, -⟩ := U2.form
        generalize p.d.length = um at *
        have HU := Lib.hid U2
        go_simp
        refine hK.out _ _ (trivial) (fun hHeld2 => ?_)
        clear hK K hHeld
        have hHeld := hHeld2
        clear hHeld2
        try simp only [Act.put, List.setIfInBounds_toArray, List.set_cons_zero, List.set_cons_succ]
        clear U2 U3 U4 U5
        refine wpAnyH_ready (rs := [4, 14]) (by kernel_rfl) (by simp) ?_
        refine (AllReadyH.cons (o := { dst := some 12, op := Op.load 27 (Operand.tmp 11), type := 27, pos := "ether.go:106", after := #[{ on := 3, ground := Ground.data }], guard := none }) rfl (fun K hK => ?_) (AllReadyH.cons (o := { dst := some 22, op := Op.buildSlice 27 1 #[(0, Operand.tmp 21)], type := 27, pos := "ether.go:106", after := #[{ on := 13, ground := Ground.data }], guard := none }) rfl (fun K hK => ?_) AllReadyH.nil))
        · have c1 := HE.out.under
          go_simp
          refine hK.out _ _ (trivial) (fun hHeld2 => ?_)
          clear hK K hHeld
          have hHeld := hHeld2
          clear hHeld2
          try simp only [Act.put, List.setIfInBounds_toArray, List.set_cons_zero, List.set_cons_succ]
          try clear c1
          refine wpAnyH_ready (rs := [14]) (by kernel_rfl) (by simp) ?_
          refine (AllReadyH.cons (o := { dst := some 22, op := Op.buildSlice 27 1 #[(0, Operand.tmp 21)], type := 27, pos := "ether.go:106", after := #[{ on := 13, ground := Ground.data }], guard := none }) rfl (fun K hK => ?_) AllReadyH.nil)
          go_simp
          refine hK.out _ _ (trivial) (fun hHeld2 => ?_)
          clear hK K hHeld
          have hHeld := hHeld2
          clear hHeld2
          try simp only [Act.put, List.setIfInBounds_toArray, List.set_cons_zero, List.set_cons_succ]
          have BA := (Below.refl wd.heap.size wd).alloc (Nat.le_refl _) (.cells #[.int .i64 (p.f : Int), .int .i64 (p.t : Int), .slice uA um uc] 39)
          have HZ := Lib.hid (heap_alloc_new wd (.cells #[.int .i64 (p.f : Int), .int .i64 (p.t : Int), .slice uA um uc] 39))
          have HE2 := Lib.hid (HE.out.below BA)
          have HU2 := Lib.hid (own_keep HU.out fun g hg => BA.block g (own_ty HU.out hg).2.1)
          have HLO2 := Lib.hid (Nat.le_trans HLO.out BA.size)
          have HW2 := Lib.hid (HW.out.trans (BA.mono HW.out.size))
          clear BA HE HU HLO HW
          generalize wd.alloc _ = wd3 at *
          generalize wd.heap.size = z at *
          generalize wd3 = wd at *
          have HE := HE2
          have HU := HU2
          have HLO := HLO2
          have HW := HW2
          clear HE2 HU2 HLO2 HW2
          refine wpAnyH_ready (rs := [15]) (by kernel_rfl) (by simp) ?_
          refine (AllReadyH.cons (o := { dst := some 23, op := Op.call { callee := Callee.builtin Builtin.append, args := #[Operand.tmp 12, Operand.tmp 22], argTypes := #[27, 27] }, type := 27, pos := "ether.go:106", after := #[{ on := 4, ground := Ground.data }, { on := 14, ground := Ground.data }, { on := 11, ground := Ground.chain }], guard := none }) rfl (fun K hK => ?_) AllReadyH.nil)
          refine step_pk rfl _ _ rfl _ p (.slice uA um uc) z (by simp [Act.eval]) (by simp [Act.eval]) HE.out.sl HU.out HZ.out (by have := hlen.out; omega) HLO.out (fun v2 w2 P2 G2 O2 => ?_)
          have H2 := Lib.hid (HE.out.putP P2 G2 (O2.imp_right fun h => ⟨_, h, Nat.le_refl _⟩))
          obtain ⟨A2, c2, hv2, -⟩ := P2.len
          generalize (l ++ [p]).length = n2 at hv2
          subst hv2
          clear P2 O2 G2
          refine hK.out _ _ (trivial) (fun hHeld2 => ?_)
          clear hK K hHeld
          have hHeld := hHeld2
          clear hHeld2
          try simp only [Act.put, List.setIfInBounds_toArray, List.set_cons_zero, List.set_cons_succ]
          refine wpAnyH_take (i := 16) (oi := { dst := some 24, op := Op.nilCheck (Operand.tmp 8), type := 0, pos := "ether.go:106", after := #[{ on := 0, ground := Ground.data }, { on := 0, ground := Ground.phase }, { on := 1, ground := Ground.phase }, { on := 2, ground := Ground.phase }, { on := 3, ground := Ground.phase }, { on := 4, ground := Ground.phase }, { on := 5, ground := Ground.phase }, { on := 6, ground := Ground.phase }, { on := 7, ground := Ground.phase }, { on := 8, ground := Ground.phase }, { on := 9, ground := Ground.phase }, { on := 10, ground := Ground.phase }, { on := 11, ground := Ground.phase }, { on := 12, ground := Ground.phase }, { on := 13, ground := Ground.phase }, { on := 14, ground := Ground.phase }, { on := 15, ground := Ground.phase }], guard := none }) (v := .pointer (some ⟨q, 0, none⟩)) rfl (by kernel_rfl) (by kernel_rfl) (by kernel_rfl) (fun _ _ _ h => h) (Or.inl ⟨by rfl, fun w hSw => by go_simp⟩) (by assumption) ?_
          try simp only [Act.put, List.setIfInBounds_toArray, List.set_cons_zero, List.set_cons_succ]
          refine wpAnyH_take (i := 17) (oi := { dst := some 25, op := Op.fieldAddr 29 (Operand.tmp 24) 1, type := 0, pos := "ether.go:106", after := #[{ on := 16, ground := Ground.data }, { on := 0, ground := Ground.phase }, { on := 1, ground := Ground.phase }, { on := 2, ground := Ground.phase }, { on := 3, ground := Ground.phase }, { on := 4, ground := Ground.phase }, { on := 5, ground := Ground.phase }, { on := 6, ground := Ground.phase }, { on := 7, ground := Ground.phase }, { on := 8, ground := Ground.phase }, { on := 9, ground := Ground.phase }, { on := 10, ground := Ground.phase }, { on := 11, ground := Ground.phase }, { on := 12, ground := Ground.phase }, { on := 13, ground := Ground.phase }, { on := 14, ground := Ground.phase }, { on := 15, ground := Ground.phase }], guard := none }) (v := .pointer (some ⟨q, 256, none⟩)) rfl (by kernel_rfl) (by kernel_rfl) (by kernel_rfl) (fun _ _ _ h => h) (Or.inl ⟨by rfl, fun w hSw => by go_simp⟩) (by assumption) ?_
          try simp only [Act.put, List.setIfInBounds_toArray, List.set_cons_zero, List.set_cons_succ]
          refine wpAnyH_ready (rs := [18]) (by kernel_rfl) (by simp) ?_
          refine (AllReadyH.cons (o := { dst := none, op := Op.store 27 (Operand.tmp 25) (Operand.tmp 23), type := 0, pos := "ether.go:106", after := #[{ on := 17, ground := Ground.data }, { on := 15, ground := Ground.data }, { on := 15, ground := Ground.chain }, { on := 0, ground := Ground.phase }, { on := 1, ground := Ground.phase }, { on := 2, ground := Ground.phase }, { on := 3, ground := Ground.phase }, { on := 4, ground := Ground.phase }, { on := 5, ground := Ground.phase }, { on := 6, ground := Ground.phase }, { on := 7, ground := Ground.phase }, { on := 8, ground := Ground.phase }, { on := 9, ground := Ground.phase }, { on := 10, ground := Ground.phase }, { on := 11, ground := Ground.phase }, { on := 12, ground := Ground.phase }, { on := 13, ground := Ground.phase }, { on := 14, ground := Ground.phase }, { on := 15, ground := Ground.phase }], guard := none }) rfl (fun K hK => ?_) AllReadyH.nil)
          have c1 := row_under H2.out.1
          have f1 := frozen_of_row _ q 256 _ 29 H2.out.1
          go_simp
          refine hK.out _ _ (trivial) (fun hHeld2 => ?_)
          clear hK K hHeld
          have hHeld := hHeld2
          clear hHeld2
          try simp only [Act.put, List.setIfInBounds_toArray, List.set_cons_zero, List.set_cons_succ]
          try clear c1 f1
          refine wpAnyH_done (by kernel_rfl) ?_ _
          try unfold NoPanic
          have H3 := Lib.hid (And.intro H2.out.2.1 ((EF.of q _ HW.out).trans H2.out.2.2))
          clear H2 HE HU HLO HW HZ
          generalize w2.setCell _ _ = w3 at *
          have cz := lose_any H3.out.1 (by have := hlen.out; simp; omega)
          go_wp2_with (go_at_call 18; (with_reducible refine cz.mono ?_); rintro e w4 ⟨rfl, v4, h4⟩; have H4 := Lib.hid h4; clear h4)
          go_ret
          exact ⟨rfl, v4, H4.out.1, H3.out.2.trans H4.out.2⟩
        · go_simp
          refine hK.out _ _ (trivial) (fun hHeld2 => ?_)
          clear hK K hHeld
          have hHeld := hHeld2
          clear hHeld2
          try simp only [Act.put, List.setIfInBounds_toArray, List.set_cons_zero, List.set_cons_succ]
          have BA := (Below.refl wd.heap.size wd).alloc (Nat.le_refl _) (.cells #[.int .i64 (p.f : Int), .int .i64 (p.t : Int), .slice uA um uc] 39)
          have HZ := Lib.hid (heap_alloc_new wd (.cells #[.int .i64 (p.f : Int), .int .i64 (p.t : Int), .slice uA um uc] 39))
          have HE2 := Lib.hid (HE.out.below BA)
          have HU2 := Lib.hid (own_keep HU.out fun g hg => BA.block g (own_ty HU.out hg).2.1)
          have HLO2 := Lib.hid (Nat.le_trans HLO.out BA.size)
          have HW2 := Lib.hid (HW.out.trans (BA.mono HW.out.size))
          clear BA HE HU HLO HW
          generalize wd.alloc _ = wd3 at *
          generalize wd.heap.size = z at *
          generalize wd3 = wd at *
          have HE := HE2
          have HU := HU2
          have HLO := HLO2
          have HW := HW2
          clear HE2 HU2 HLO2 HW2
          refine wpAnyH_ready (rs := [4]) (by kernel_rfl) (by simp) ?_
          refine (AllReadyH.cons (o := { dst := some 12, op := Op.load 27 (Operand.tmp 11), type := 27, pos := "ether.go:106", after := #[{ on := 3, ground := Ground.data }], guard := none }) rfl (fun K hK => ?_) AllReadyH.nil)
          have c1 := HE.out.under
          go_simp
          refine hK.out _ _ (trivial) (fun hHeld2 => ?_)
          clear hK K hHeld
          have hHeld := hHeld2
          clear hHeld2
          try simp only [Act.put, List.setIfInBounds_toArray, List.set_cons_zero, List.set_cons_succ]
          try clear c1
          refine wpAnyH_ready (rs := [15]) (by kernel_rfl) (by simp) ?_
          refine (AllReadyH.cons (o := { dst := some 23, op := Op.call { callee := Callee.builtin Builtin.append, args := #[Operand.tmp 12, Operand.tmp 22], argTypes := #[27, 27] }, type := 27, pos := "ether.go:106", after := #[{ on := 4, ground := Ground.data }, { on := 14, ground := Ground.data }, { on := 11, ground := Ground.chain }], guard := none }) rfl (fun K hK => ?_) AllReadyH.nil)
          refine step_pk rfl _ _ rfl _ p (.slice uA um uc) z (by simp [Act.eval]) (by simp [Act.eval]) HE.out.sl HU.out HZ.out (by have := hlen.out; omega) HLO.out (fun v2 w2 P2 G2 O2 => ?_)
          have H2 := Lib.hid (HE.out.putP P2 G2 (O2.imp_right fun h => ⟨_, h, Nat.le_refl _⟩))
          obtain ⟨A2, c2, hv2, -⟩ := P2.len
          generalize (l ++ [p]).length = n2 at hv2
          subst hv2
          clear P2 O2 G2
          refine hK.out _ _ (trivial) (fun hHeld2 => ?_)
          clear hK K hHeld
          have hHeld := hHeld2
          clear hHeld2
          try simp only [Act.put, List.setIfInBounds_toArray, List.set_cons_zero, List.set_cons_succ]
          refine wpAnyH_take (i := 16) (oi := { dst := some 24, op := Op.nilCheck (Operand.tmp 8), type := 0, pos := "ether.go:106", after := #[{ on := 0, ground := Ground.data }, { on := 0, ground := Ground.phase }, { on := 1, ground := Ground.phase }, { on := 2, ground := Ground.phase }, { on := 3, ground := Ground.phase }, { on := 4, ground := Ground.phase }, { on := 5, ground := Ground.phase }, { on := 6, ground := Ground.phase }, { on := 7, ground := Ground.phase }, { on := 8, ground := Ground.phase }, { on := 9, ground := Ground.phase }, { on := 10, ground := Ground.phase }, { on := 11, ground := Ground.phase }, { on := 12, ground := Ground.phase }, { on := 13, ground := Ground.phase }, { on := 14, ground := Ground.phase }, { on := 15, ground := Ground.phase }], guard := none }) (v := .pointer (some ⟨q, 0, none⟩)) rfl (by kernel_rfl) (by kernel_rfl) (by kernel_rfl) (fun _ _ _ h => h) (Or.inl ⟨by rfl, fun w hSw => by go_simp⟩) (by assumption) ?_
          try simp only [Act.put, List.setIfInBounds_toArray, List.set_cons_zero, List.set_cons_succ]
          refine wpAnyH_take (i := 17) (oi := { dst := some 25, op := Op.fieldAddr 29 (Operand.tmp 24) 1, type := 0, pos := "ether.go:106", after := #[{ on := 16, ground := Ground.data }, { on := 0, ground := Ground.phase }, { on := 1, ground := Ground.phase }, { on := 2, ground := Ground.phase }, { on := 3, ground := Ground.phase }, { on := 4, ground := Ground.phase }, { on := 5, ground := Ground.phase }, { on := 6, ground := Ground.phase }, { on := 7, ground := Ground.phase }, { on := 8, ground := Ground.phase }, { on := 9, ground := Ground.phase }, { on := 10, ground := Ground.phase }, { on := 11, ground := Ground.phase }, { on := 12, ground := Ground.phase }, { on := 13, ground := Ground.phase }, { on := 14, ground := Ground.phase }, { on := 15, ground := Ground.phase }], guard := none }) (v := .pointer (some ⟨q, 256, none⟩)) rfl (by kernel_rfl) (by kernel_rfl) (by kernel_rfl) (fun _ _ _ h => h) (Or.inl ⟨by rfl, fun w hSw => by go_simp⟩) (by assumption) ?_
          try simp only [Act.put, List.setIfInBounds_toArray, List.set_cons_zero, List.set_cons_succ]
          refine wpAnyH_ready (rs := [18]) (by kernel_rfl) (by simp) ?_
          refine (AllReadyH.cons (o := { dst := none, op := Op.store 27 (Operand.tmp 25) (Operand.tmp 23), type := 0, pos := "ether.go:106", after := #[{ on := 17, ground := Ground.data }, { on := 15, ground := Ground.data }, { on := 15, ground := Ground.chain }, { on := 0, ground := Ground.phase }, { on := 1, ground := Ground.phase }, { on := 2, ground := Ground.phase }, { on := 3, ground := Ground.phase }, { on := 4, ground := Ground.phase }, { on := 5, ground := Ground.phase }, { on := 6, ground := Ground.phase }, { on := 7, ground := Ground.phase }, { on := 8, ground := Ground.phase }, { on := 9, ground := Ground.phase }, { on := 10, ground := Ground.phase }, { on := 11, ground := Ground.phase }, { on := 12, ground := Ground.phase }, { on := 13, ground := Ground.phase }, { on := 14, ground := Ground.phase }, { on := 15, ground := Ground.phase }], guard := none }) rfl (fun K hK => ?_) AllReadyH.nil)
          have c1 := row_under H2.out.1
          have f1 := frozen_of_row _ q 256 _ 29 H2.out.1
          go_simp
          refine hK.out _ _ (trivial) (fun hHeld2 => ?_)
          clear hK K hHeld
          have hHeld := hHeld2
          clear hHeld2
          try simp only [Act.put, List.setIfInBounds_toArray, List.set_cons_zero, List.set_cons_succ]
          try clear c1 f1
          refine wpAnyH_done (by kernel_rfl) ?_ _
          try unfold NoPanic
          have H3 := Lib.hid (And.intro H2.out.2.1 ((EF.of q _ HW.out).trans H2.out.2.2))
          clear H2 HE HU HLO HW HZ
          generalize w2.setCell _ _ = w3 at *
          have cz := lose_any H3.out.1 (by have := hlen.out; simp; omega)
          go_wp2_with (go_at_call 18; (with_reducible refine cz.mono ?_); rintro e w4 ⟨rfl, v4, h4⟩; have H4 := Lib.hid h4; clear h4)
          go_ret
          exact ⟨rfl, v4, H4.out.1, H3.out.2.trans H4.out.2⟩
end Go.Proofs.Yteolfclkcgfelaa.Eth
