/-
  'For every input the Go function milestonelaw16.RoutesLast returns true, and each argument reads behind the call as it read before.'
  Conditions: none but the row's own (linux/amd64, sizes of what is read within the address space).
-/
import Derived.Test.YtkbhmdoichiinaaRows
import Derived.WalkKit
import Derived.ProofKit
import Derived.OpenShut
import Derived.ShutString
import Derived.ChangeOld
import Derived.Below
import Derived.Lib.SmallJoins
import Derived.Lib.Hide
import Derived.Test.YtkbhmdoichiinaaSD
namespace Go.Proofs.Ytkbhmdoichiinaa.routesLast
open Pre
open Ser
open Rts
open Go.ChangeShapes Go.WideShapes Go.ChangeAt Go.RowKit
open Go.ChangeMaps (open_string shut_string)
set_option linter.unusedVariables false
set_option maxRecDepth 8000
open Go.Proofs.Ytkbhmdoichiinaa.Src (row1 row2 Mk SrcAt pA pN)

theorem own : ownKnob Try.prog.godebug = none := by kernel_rfl
theorem laidOut : laidOutB Try.prog = true := by kernel_rfl

/-- What stands while it is tried how long something holds. -/
structure RL (w W : World) (q : Nat) (L : List E) (v : Value) (s mm : Nat) : Prop where
  b : Below w.heap.size w W
  r : RtsAt w.heap.size W q L v
  x : W.heap[w.heap.size]? = some (.cells #[.int .u16 (s : Int), .int .u16 (mm : Int)] 41 (0, 0))
theorem RL.step {w W W' : World} {q : Nat} {L : List E} {v : Value} {s mm : Nat} (h : RL w W q L v s mm) (B : Below W.heap.size W W') : RL w W' q L v s mm := ⟨h.b.trans (B.mono h.b.size), h.r.kept B, brow B h.x⟩
theorem RL.mv {w W W' : World} {q : Nat} {L L' : List E} {v : Value} {s mm : Nat} {ans e : Ending} (h : RL w W q L v s mm) (M : MvSaid w.heap.size W q v L' ans e W') : ∃ v', RL w W' q L' v' s mm := by
  obtain ⟨v', h1, h2, h3⟩ := mv_keep h.r M
  exact ⟨v', h.b.trans h2, h1, h3 _ _ _ h.x (by decide) (by decide)⟩
theorem RL.all {w W : World} {q : Nat} {L : List E} {v : Value} {s mm : Nat} (h : RL w W q L v s mm) (hl : L.length ≤ 10) : Calls Try.prog 11 #[.pointer (some ⟨q, 0, none⟩)] W fun e w' => ∃ A c, e = .returned (.slice A L.length c) ∧ Below W.heap.size W w' :=
  (all_any W w.heap.size q v L h.r (by omega)).mono fun e w' ⟨v', h1, h2, h3⟩ => by
    obtain ⟨A, c, hv, _, _⟩ := h2.form
    exact ⟨A, c, by rw [h1, hv], h3⟩
theorem rts_low {lo lo' : Nat} {w : World} {q : Nat} {L : List E} {v : Value} (h : RtsAt lo w q L v) (hl : lo' ≤ lo) : RtsAt lo' w q L v := ⟨h.row, own_mono h.own hl, h.ne, Nat.le_trans hl h.le⟩
theorem sel_nil {lo ls : Nat} {W : World} {q qs cs : Nat} {v : Value} {Ac : Option Addr} {nc cc : Nat} (h : RtsAt lo W q [] v) (hs : SrcAt ls W qs (fun _ _ => none) cs) (hc : CostAt W Ac nc cfG) : Calls Try.prog 15 #[.pointer (some ⟨q, 0, none⟩), .pointer (some ⟨qs, 0, none⟩), .slice Ac nc cc] W fun en w' => ∃ A c, en = .returned (.slice A 0 c) ∧ Below W.heap.size W w' :=
  (select_any W lo q v [] h List.Pairwise.nil (fun e he => by simp at he) (by decide) ls qs cs _ hs Ac nc cc cfG hc).mono fun en w' ⟨vv, rs, he, h1, h2, h3, h4⟩ => by
    have h0 : rs.length = 0 := Nat.le_zero.1 h4
    obtain ⟨A, c, hv, _, _⟩ := h2.form (fun _ => rfl)
    exact ⟨A, c, by rw [he, hv, h0], h3⟩
theorem walk (a0 : Int) (a1 : Int) (a2_0 a2_1 : Int) (a3 : Int) (w : World) (w0 : (Lit.int .u8 a0).wf = true) (w1 : (Lit.int .u8 a1).wf = true) (w2_0 : (Lit.int .u16 a2_0).wf = true) (w2_1 : (Lit.int .u16 a2_1).wf = true) (w3 : (Lit.int .u8 a3).wf = true) :
    Calls Try.prog 7 #[.int .u8 a0, .int .u8 a1, .agg #[.int .u16 a2_0, .int .u16 a2_1], .int .u8 a3] w fun e w' => e = .returned (.bool true) ∧ Below w.heap.size w w' := by
  have b0 := bounds_u8 w0
  have b1 := bounds_u8 w1
  have b2 := bounds_u16 w2_0
  have b3 := bounds_u16 w2_1
  have b4 := bounds_u8 w3
  obtain ⟨bb, rfl⟩ := Int.eq_ofNat_of_zero_le b0.1
  obtain ⟨p, rfl⟩ := Int.eq_ofNat_of_zero_le b1.1
  obtain ⟨s, rfl⟩ := Int.eq_ofNat_of_zero_le b2.1
  obtain ⟨mm, rfl⟩ := Int.eq_ofNat_of_zero_le b3.1
  obtain ⟨ag, rfl⟩ := Int.eq_ofNat_of_zero_le b4.1
  have hB0 := (Below.refl w.heap.size w).alloc (Nat.le_refl _) (.cells #[.int .u16 (s : Int), .int .u16 (mm : Int)] 41)
  have hx0 := heap_alloc_new w (.cells #[.int .u16 (s : Int), .int .u16 (mm : Int)] 41)
  obtain ⟨W0, hW0⟩ : ∃ W0, W0 = w.alloc (.cells #[.int .u16 (s : Int), .int .u16 (mm : Int)] 41) := ⟨_, rfl⟩
  rw [← hW0] at hB0 hx0
  have H0 := Lib.hid (And.intro hB0 (And.intro hx0 hW0))
  have HAW : Hid (∀ W, Calls Try.prog 8 #[] W fun e w' => e = .returned (.bool true) ∧ Below W.heap.size W w') := Lib.hid awake_any
  clear w0 w1 w2_0 w2_1 w3 hB0 hx0 hW0
  by_cases hm : mm = 65535
  · have hm3 : ((mm : Int) == 65535) = true := by simp; omega
    have hm2 : (mm : Int) = 65535 := by omega
    have HM2 := Lib.hid hm2
    clear hm hm2 b0 b1 b2 b3 b4
    go_enter Try.func7, Try.ntmps7
    go_wp2_with (first
      | (go_at_call 8; rw [← H0.out.2.2]; (with_reducible refine (HAW.out _).mono ?_); rintro en w1 ⟨rfl, B1⟩; have H1 := Lib.hid (And.intro (H0.out.1.trans (B1.mono H0.out.1.size)) (brow B1 H0.out.2.1)); clear B1; obtain ⟨m0, m1, -⟩ := row2 H1.out.2; have hms : w.heap.size < w1.heap.size := (Array.getElem?_eq_some_iff.1 H1.out.2).1)
      | (go_at_call 8; (with_reducible refine (HAW.out _).mono ?_); rintro en w2 ⟨rfl, B2⟩; have H2 := Lib.hid (H1.out.1.trans (B2.mono H1.out.1.size)); clear B2))
    go_ret
    exact ⟨rfl, H2.out⟩
  · have hm2 : ¬ (mm : Int) = 65535 := by omega
    have hm3 : ((mm : Int) == 65535) = false := by simp; omega
    obtain ⟨a, ha⟩ : ∃ a, a = pA p := ⟨_, rfl⟩
    obtain ⟨m, hmm⟩ : ∃ m, m = pN p := ⟨_, rfl⟩
    obtain ⟨y, hy⟩ : ∃ y, y = bb % 16 := ⟨_, rfl⟩
    obtain ⟨g, hg⟩ : ∃ g, g = ag % 50 := ⟨_, rfl⟩
    have hby : (bb : Int) % 16 = (y : Int) := by omega
    have hag : (ag : Int) % 50 = (g : Int) := by omega
    have hwy : IntKind.i64.wrap (y : Int) = (y : Int) := by rw [IntKind.wrap_i64]; omega
    have hwg : IntKind.u64.wrap (g : Int) = (g : Int) := by rw [IntKind.wrap_u64]; omega
    have hwt : IntKind.u64.wrap (59 + (g : Int)) = ((59 + g : Nat) : Int) := by rw [IntKind.wrap_u64]; omega
    have CP : Hid (∀ W, Calls Try.prog 17 #[.int .u8 (p : Int)] W fun e w' => e = .returned (.agg #[.int .u32 (a : Int), .int .u8 (m : Int)]) ∧ Below W.heap.size W w') := Lib.hid fun W => by rw [ha, hmm]; exact Src.prefix_n p (by omega) W
    have hal : a < 4294967296 := by rw [ha]; exact Src.pA_lt p
    have hml : m < 256 := by rw [hmm]; have := Src.pN_le p; omega
    have hrt : Pre.right a m = true := by rw [ha, hmm]; exact Src.p_right p
    have eo : ∀ now, now < 1000 → E.Ok ⟨a, m, y, 0, s, mm, now + 50⟩ := fun now h => ⟨hal, hml, by show y < 16; omega, by show (0 : Nat) < 16; omega, by show s < 65536; omega, by show mm < 65535; omega, by show now + 50 < _; omega⟩
    have HT1 : Hid (∀ (v : Value) (W : World), ∀ {q : Nat}, RtsAt w.heap.size W q [] v → Calls Try.prog 26 #[.pointer (some ⟨q, 0, none⟩), .int .i64 (y : Int), .agg #[.int .u32 (a : Int), .int .u8 (m : Int)], .int .i64 0, .agg #[.int .u16 (s : Int), .int .u16 (mm : Int)], .int .u64 10] W (MvSaid w.heap.size W q v [⟨a, m, y, 0, s, mm, 60⟩] (.returned (.int .i64 0)))) :=
      Lib.hid fun v W q h => tell_put W w.heap.size q v [] h List.Pairwise.nil (by decide) (fun e he => by simp at he) a m y 0 s mm 10 hal hml hrt (by omega) (by decide) (by omega) (by decide) (by omega)
    have HT2 : Hid (∀ (v : Value) (W : World), ∀ {q : Nat}, RtsAt w.heap.size W q [⟨a, m, y, 0, s, mm, 60⟩] v → Calls Try.prog 26 #[.pointer (some ⟨q, 0, none⟩), .int .i64 (y : Int), .agg #[.int .u32 (a : Int), .int .u8 (m : Int)], .int .i64 0, .agg #[.int .u16 (s : Int), .int .u16 (mm : Int)], .int .u64 59] W (MvSaid w.heap.size W q v [⟨a, m, y, 0, s, mm, 109⟩] (.returned (.int .i64 0)))) :=
      Lib.hid fun v W q h => by
        have := tell_put W w.heap.size q v [⟨a, m, y, 0, s, mm, 60⟩] h (List.pairwise_singleton _ _) (by simp) (fun e he => by rw [List.mem_singleton] at he; subst he; exact eo 10 (by decide)) a m y 0 s mm 59 hal hml hrt (by omega) (by decide) (by omega) (by decide) (by omega)
        have e : putE [⟨a, m, y, 0, s, mm, 60⟩] ⟨a, m, y, 0, s, mm, 59 + 50⟩ = [⟨a, m, y, 0, s, mm, 109⟩] := by simp [putE, there, pos, E.key]
        rw [e] at this
        exact this
    have HK1 : Hid (∀ (v : Value) (W : World) (q : Nat), RtsAt w.heap.size W q [⟨a, m, y, 0, s, mm, 60⟩] v → Calls Try.prog 27 #[.pointer (some ⟨q, 0, none⟩), .int .u64 59] W (MvSaid w.heap.size W q v [⟨a, m, y, 0, s, mm, 60⟩] (.returned (.tuple #[])))) :=
      Lib.hid fun v W q h => tick_any W w.heap.size q v _ h (by simp) (fun e he => by rw [List.mem_singleton] at he; subst he; exact eo 10 (by decide)) 59
    have HK2 : Hid (∀ (v : Value) (W : World) (q : Nat), RtsAt w.heap.size W q [⟨a, m, y, 0, s, mm, 109⟩] v → Calls Try.prog 27 #[.pointer (some ⟨q, 0, none⟩), .int .u64 ((59 + g : Nat) : Int)] W (MvSaid w.heap.size W q v [⟨a, m, y, 0, s, mm, 109⟩] (.returned (.tuple #[])))) :=
      Lib.hid fun v W q h => by
        have := tick_any W w.heap.size q v _ h (by simp) (fun e he => by rw [List.mem_singleton] at he; subst he; exact eo 59 (by decide)) (59 + g)
        have e : [(⟨a, m, y, 0, s, mm, 109⟩ : E)].filter (fun e => !(decide (e.u ≤ 59 + g))) = [⟨a, m, y, 0, s, mm, 109⟩] := by simp; omega
        rw [e] at this
        exact this
    have HK3 : Hid (∀ (v : Value) (W : World) (q : Nat), RtsAt w.heap.size W q [⟨a, m, y, 0, s, mm, 109⟩] v → Calls Try.prog 27 #[.pointer (some ⟨q, 0, none⟩), .int .u64 109] W (MvSaid w.heap.size W q v [] (.returned (.tuple #[])))) :=
      Lib.hid fun v W q h => by
        have := tick_any W w.heap.size q v _ h (by simp) (fun e he => by rw [List.mem_singleton] at he; subst he; exact eo 59 (by decide)) 109
        have e : [(⟨a, m, y, 0, s, mm, 109⟩ : E)].filter (fun e => !(decide (e.u ≤ 109))) = [] := by simp
        rw [e] at this
        exact this
    obtain ⟨tg, htg⟩ : ∃ tg : Nat, tg = 59 + g := ⟨_, rfl⟩
    rw [← htg] at HK2 hwt
    clear ha hmm hy hg hal hml hrt eo hm htg b0 b1 b2 b3 b4
    go_enter Try.func7, Try.ntmps7
    go_upto_region 5 with (first
      | (go_at_call 8; rw [← H0.out.2.2]; (with_reducible refine (HAW.out _).mono ?_); rintro en w1 ⟨rfl, B1⟩; have H1 := Lib.hid (And.intro (H0.out.1.trans (B1.mono H0.out.1.size)) (brow B1 H0.out.2.1)); clear B1; obtain ⟨m0, m1, -⟩ := row2 H1.out.2; have hms : w.heap.size < w1.heap.size := (Array.getElem?_eq_some_iff.1 H1.out.2).1)
      | (go_at_call 9; (with_reducible refine (new_any _).mono ?_); rintro en w2 ⟨rfl, R2, B2⟩; have HQ := Lib.hid (RL.mk (H1.out.1.trans (B2.mono H1.out.1.size)) (rts_low R2 H1.out.1.size) (brow B2 H1.out.2)); clear B2 R2 m0 m1 hms))
    generalize w1.heap.size = q at *
    replace HQ := Lib.hid (HQ.out.step ((Below.refl w2.heap.size w2).drew))
    refine wp_region_noPanic ?_
    refine wp_region_held_drew (S := fun y : World => y.heap[w.heap.size]? = some (.cells #[.int .u16 (s : Int), .int .u16 (mm : Int)] 41 (0, 0))) (by kernel_rfl) HQ.out.x (fun hHeld => ?_)
    generalize w2.drew = wd at *
    refine wpAnyH_take (i := 0) (oi := { dst := some 25, op := Op.move (Operand.tmp 9), type := 24, pos := "more.go:17", after := #[], guard := none }) (v := .pointer (some ⟨q, 0, none⟩)) rfl (by kernel_rfl) (by kernel_rfl) (by kernel_rfl) (fun _ _ _ h => h) (Or.inl ⟨by rfl, fun w hSw => by go_simp⟩) (by assumption) ?_
    try simp only [Act.put, List.setIfInBounds_toArray, List.set_cons_zero, List.set_cons_succ]
    refine wpAnyH_take (i := 1) (oi := { dst := some 26, op := Op.move (Operand.tmp 10), type := 3, pos := "more.go:17", after := #[], guard := none }) (v := .int .i64 (y : Int)) rfl (by kernel_rfl) (by kernel_rfl) (by kernel_rfl) (fun _ _ _ h => h) (Or.inl ⟨by rfl, fun w hSw => by go_simp⟩) (by assumption) ?_
    try simp only [Act.put, List.setIfInBounds_toArray, List.set_cons_zero, List.set_cons_succ]
    refine wpAnyH_take (i := 2) (oi := { dst := some 27, op := Op.move (Operand.tmp 1), type := 5, pos := "more.go:17", after := #[], guard := none }) (v := .int .u8 (p : Int)) rfl (by kernel_rfl) (by kernel_rfl) (by kernel_rfl) (fun _ _ _ h => h) (Or.inl ⟨by rfl, fun w hSw => by go_simp⟩) (by assumption) ?_
    try simp only [Act.put, List.setIfInBounds_toArray, List.set_cons_zero, List.set_cons_succ]
    refine wpAnyH_take (i := 4) (oi := { dst := some 29, op := Op.load 41 (Operand.tmp 6), type := 41, pos := "more.go:17", after := #[], guard := none }) (v := .agg #[.int .u16 (s : Int), .int .u16 (mm : Int)]) rfl (by kernel_rfl) (by kernel_rfl) (by kernel_rfl) (fun _ _ _ h => h) (Or.inl ⟨by rfl, fun w hSw => by obtain ⟨p0, p1, -⟩ := row2 hSw; go_simp⟩) (by assumption) ?_
    try simp only [Act.put, List.setIfInBounds_toArray, List.set_cons_zero, List.set_cons_succ]
    refine wpAnyH_ready (rs := [3]) (by kernel_rfl) (by simp) ?_
    refine AllReadyH.cons (o := { dst := some 28, op := Op.call { callee := Callee.value (Operand.func 17), args := #[Operand.tmp 27], argTypes := #[5] }, type := 39, pos := "more.go:17", after := #[{ on := 2, ground := Ground.data }], guard := none }) rfl (fun K hK => ?_) AllReadyH.nil
    go_simp
    with_reducible refine (CP.out _).mono ?_
    rintro en wn ⟨rfl, hB⟩
    have hS2 := brow hB hHeld
    replace HQ := Lib.hid (HQ.out.step hB)
    refine hK.out _ _ (hS2) (fun hHeld2 => ?_)
    clear hK K hHeld
    have hHeld := hHeld2
    clear hHeld2
    try simp only [Act.put, List.setIfInBounds_toArray, List.set_cons_zero, List.set_cons_succ]
    clear hB hS2 wd
    generalize wn = wd at *
    refine wpAnyH_ready (rs := [5]) (by kernel_rfl) (by simp) ?_
    refine AllReadyH.cons (o := { dst := some 30, op := Op.call { callee := Callee.value (Operand.func 26), args := #[Operand.tmp 25, Operand.tmp 26, Operand.tmp 28, Operand.const (Value.int IntKind.i64 0), Operand.tmp 29, Operand.const (Value.int IntKind.u64 10)], argTypes := #[24, 3, 39, 3, 41, 27] }, type := 61, pos := "more.go:17", after := #[{ on := 0, ground := Ground.data }, { on := 1, ground := Ground.data }, { on := 3, ground := Ground.data }, { on := 4, ground := Ground.data }, { on := 3, ground := Ground.chain }], guard := none }) rfl (fun K hK => ?_) AllReadyH.nil
    go_simp
    with_reducible refine (HT1.out _ _ HQ.out.r).mono ?_
    rintro en wn hmv
    obtain ⟨vn, HN⟩ := HQ.out.mv hmv
    obtain ⟨rfl, -⟩ := hmv
    have HQ2 := Lib.hid HN
    have hS2 := HN.x
    clear HN
    refine hK.out _ _ (hS2) (fun hHeld2 => ?_)
    clear hK K hHeld
    have hHeld := hHeld2
    clear hHeld2
    try simp only [Act.put, List.setIfInBounds_toArray, List.set_cons_zero, List.set_cons_succ]
    clear HQ hS2 wd
    generalize wn = wd at *
    generalize vn = v at *
    have HQ := HQ2
    clear HQ2
    refine wpAnyH_done (by kernel_rfl) ?_ _
    try unfold NoPanic
    clear hHeld
    generalize wd = W at *
    go_upto_region 8 with (first
      | (go_at_call 27; (with_reducible refine (HK1.out _ _ _ HQ.out.r).mono ?_); rintro en wk hmv; obtain ⟨vk, HN⟩ := HQ.out.mv hmv; obtain ⟨rfl, -⟩ := hmv; have HQ2 := Lib.hid HN; clear HN HQ; have HQ := HQ2; clear HQ2)
      | (go_at_call 11; (with_reducible refine (HQ.out.all (by simp)).mono ?_); rintro en wk ⟨Ak, ck, rfl, Bk⟩; have HQ2 := Lib.hid (HQ.out.step Bk); clear Bk HQ; have HQ := HQ2; clear HQ2))
    generalize wk = W at *
    replace HQ := Lib.hid (HQ.out.step ((Below.refl W.heap.size W).drew))
    refine wp_region_noPanic ?_
    refine wp_region_held_drew (S := fun y : World => y.heap[w.heap.size]? = some (.cells #[.int .u16 (s : Int), .int .u16 (mm : Int)] 41 (0, 0))) (by kernel_rfl) HQ.out.x (fun hHeld => ?_)
    generalize W.drew = wd at *
    refine wpAnyH_take (i := 0) (oi := { dst := some 37, op := Op.move (Operand.tmp 9), type := 24, pos := "more.go:20", after := #[], guard := none }) (v := .pointer (some ⟨q, 0, none⟩)) rfl (by kernel_rfl) (by kernel_rfl) (by kernel_rfl) (fun _ _ _ h => h) (Or.inl ⟨by rfl, fun w hSw => by go_simp⟩) (by assumption) ?_
    try simp only [Act.put, List.setIfInBounds_toArray, List.set_cons_zero, List.set_cons_succ]
    refine wpAnyH_take (i := 1) (oi := { dst := some 38, op := Op.move (Operand.tmp 10), type := 3, pos := "more.go:20", after := #[], guard := none }) (v := .int .i64 (y : Int)) rfl (by kernel_rfl) (by kernel_rfl) (by kernel_rfl) (fun _ _ _ h => h) (Or.inl ⟨by rfl, fun w hSw => by go_simp⟩) (by assumption) ?_
    try simp only [Act.put, List.setIfInBounds_toArray, List.set_cons_zero, List.set_cons_succ]
    refine wpAnyH_take (i := 2) (oi := { dst := some 39, op := Op.move (Operand.tmp 1), type := 5, pos := "more.go:20", after := #[], guard := none }) (v := .int .u8 (p : Int)) rfl (by kernel_rfl) (by kernel_rfl) (by kernel_rfl) (fun _ _ _ h => h) (Or.inl ⟨by rfl, fun w hSw => by go_simp⟩) (by assumption) ?_
    try simp only [Act.put, List.setIfInBounds_toArray, List.set_cons_zero, List.set_cons_succ]
    refine wpAnyH_take (i := 4) (oi := { dst := some 41, op := Op.load 41 (Operand.tmp 6), type := 41, pos := "more.go:20", after := #[], guard := none }) (v := .agg #[.int .u16 (s : Int), .int .u16 (mm : Int)]) rfl (by kernel_rfl) (by kernel_rfl) (by kernel_rfl) (fun _ _ _ h => h) (Or.inl ⟨by rfl, fun w hSw => by obtain ⟨p0, p1, -⟩ := row2 hSw; go_simp⟩) (by assumption) ?_
    try simp only [Act.put, List.setIfInBounds_toArray, List.set_cons_zero, List.set_cons_succ]
    refine wpAnyH_ready (rs := [3]) (by kernel_rfl) (by simp) ?_
    refine AllReadyH.cons (o := { dst := some 40, op := Op.call { callee := Callee.value (Operand.func 17), args := #[Operand.tmp 39], argTypes := #[5] }, type := 39, pos := "more.go:20", after := #[{ on := 2, ground := Ground.data }], guard := none }) rfl (fun K hK => ?_) AllReadyH.nil
    go_simp
    with_reducible refine (CP.out _).mono ?_
    rintro en wn ⟨rfl, hB⟩
    have hS2 := brow hB hHeld
    replace HQ := Lib.hid (HQ.out.step hB)
    refine hK.out _ _ (hS2) (fun hHeld2 => ?_)
    clear hK K hHeld
    have hHeld := hHeld2
    clear hHeld2
    try simp only [Act.put, List.setIfInBounds_toArray, List.set_cons_zero, List.set_cons_succ]
    clear hB hS2 wd
    generalize wn = wd at *
    refine wpAnyH_ready (rs := [5]) (by kernel_rfl) (by simp) ?_
    refine AllReadyH.cons (o := { dst := some 42, op := Op.call { callee := Callee.value (Operand.func 26), args := #[Operand.tmp 37, Operand.tmp 38, Operand.tmp 40, Operand.const (Value.int IntKind.i64 0), Operand.tmp 41, Operand.const (Value.int IntKind.u64 59)], argTypes := #[24, 3, 39, 3, 41, 27] }, type := 61, pos := "more.go:20", after := #[{ on := 0, ground := Ground.data }, { on := 1, ground := Ground.data }, { on := 3, ground := Ground.data }, { on := 4, ground := Ground.data }, { on := 3, ground := Ground.chain }], guard := none }) rfl (fun K hK => ?_) AllReadyH.nil
    go_simp
    with_reducible refine (HT2.out _ _ HQ.out.r).mono ?_
    rintro en wn hmv
    obtain ⟨vn, HN⟩ := HQ.out.mv hmv
    obtain ⟨rfl, -⟩ := hmv
    have HQ2 := Lib.hid HN
    have hS2 := HN.x
    clear HN
    refine hK.out _ _ (hS2) (fun hHeld2 => ?_)
    clear hK K hHeld
    have hHeld := hHeld2
    clear hHeld2
    try simp only [Act.put, List.setIfInBounds_toArray, List.set_cons_zero, List.set_cons_succ]
    clear HQ hS2 wd
    generalize wn = wd at *
    generalize vn = v at *
    have HQ := HQ2
    clear HQ2
    refine wpAnyH_done (by kernel_rfl) ?_ _
    try unfold NoPanic
    clear hHeld
    generalize wd = W at *
    go_wp2_with (first
      | (go_at_call 27; (with_reducible refine (HK2.out _ _ _ HQ.out.r).mono ?_); rintro en wk hmv; obtain ⟨vk, HN⟩ := HQ.out.mv hmv; obtain ⟨rfl, -⟩ := hmv; have HQ2 := Lib.hid HN; clear HN HQ; have HQ := HQ2; clear HQ2)
      | (go_at_call 27; (with_reducible refine (HK3.out _ _ _ HQ.out.r).mono ?_); rintro en wk hmv; obtain ⟨vk, HN⟩ := HQ.out.mv hmv; obtain ⟨rfl, -⟩ := hmv; have HQ2 := Lib.hid HN; clear HN HQ; have HQ := HQ2; clear HQ2)
      | (go_at_call 11; (with_reducible refine (HQ.out.all (by simp)).mono ?_); rintro en wk ⟨Ak, ck, rfl, Bk⟩; have HQ2 := Lib.hid (HQ.out.step Bk); clear Bk HQ; have HQ := HQ2; clear HQ2)
      | (go_at_call 28; (with_reducible refine (Src.New_any _).mono ?_); rintro en w5 ⟨rfl, S5, B5⟩; have HS5 := Lib.hid (And.intro S5 (HQ.out.step B5)); clear S5 B5)
      | (go_at_call 29; (with_reducible refine (good_any _).mono ?_); rintro en w6 ⟨rfl, hw6⟩; have hB6 := (Below.refl w5.heap.size w5).alloc (Nat.le_refl _) (.cells #[.int .u16 96, .int .u16 96, .int .u16 96, .int .u16 96, .int .u16 96, .int .u16 96, .int .u16 96, .int .u16 96] 32); have hC6 := good_cost w5; rw [← hw6] at hB6 hC6; have HS6 := Lib.hid (And.intro (HS5.out.1.below hB6) (And.intro (HS5.out.2.step hB6) hC6)); clear hB6 hC6 hw6)
      | (go_at_call 15; (with_reducible refine (sel_nil HS6.out.2.1.r HS6.out.1 HS6.out.2.2).mono ?_); rintro en w7 ⟨A7, c7, rfl, B7⟩; have H7 := Lib.hid (HS6.out.2.1.b.trans (B7.mono HS6.out.2.1.b.size)); clear B7))
    go_ret
    exact ⟨rfl, H7.out⟩

set_option maxRecDepth 100000 in
theorem lifted (os : Os) (started : os.Started) (H : Type) (enc : TypeId × Value → H) :
    ReturnsInHanded {} Try.checked os 7 .any (Rows.routesLastSpec.pre6 enc Try.prog Try.f7 Rows.routesLastRow.domain false) (Rows.routesLastSpec.post enc Try.prog Try.f7 false true false false) := by
  refine returnsInHanded_of_change (C := Try.checked) own started (by kernel_rfl) Try.func7
    (ChangeSpec.witness6 (enc := enc) (C := Try.checked) false ⟨#[], #[.int .u8 0, .int .u8 0, .agg #[.int .u16 0, .int .u16 0], .int .u8 0], []⟩ 8 (by kernel_rfl) (by kernel_rfl) (by kernel_rfl) (by kernel_rfl)) ?_
  intro W base args ds gs before hval0 hW hcnd _
  have hval : ∀ (j : Nat) t v, Try.f7.params[j]? = some t → args[j]? = some v → Value.okWide Try.prog W .any base t v := hval0
  have hW' := hW
  obtain ⟨p, q, hA0, hV, rfl, hfz, hnd⟩ := hW
  have hA : DataW.TrodAll enc Try.prog W 0 (fun _ => true) true Try.f7.params.toList args.toList ds p := hA0
  rw [Try.params7] at hA hval
  obtain ⟨v0, vs0, d0, ds0, p0, q0, hargs, rfl, rfl, h0, r0⟩ := trodAll_cons hA
  obtain ⟨v1, vs1, d1, ds1, p1, q1, rfl, rfl, rfl, h1, r1⟩ := trodAll_cons r0
  obtain ⟨v2, vs2, d2, ds2, p2, q2, rfl, rfl, rfl, h2, r2⟩ := trodAll_cons r1
  obtain ⟨v3, vs3, d3, ds3, p3, q3, rfl, rfl, rfl, h3, r3⟩ := trodAll_cons r2
  obtain ⟨rfl, rfl, rfl⟩ := trodAll_nil r3
  obtain rfl : args = #[v0, v1, v2, v3] := by cases args; simp_all
  obtain ⟨rfl, rfl⟩ := trodVars_none hV
  obtain ⟨a0, rfl, rfl, rfl, w0⟩ := open_int Try.underlying5 (hval 0 5 v0 rfl rfl) h0
  obtain ⟨a1, rfl, rfl, rfl, w1⟩ := open_int Try.underlying5 (hval 1 5 v1 rfl rfl) h1
  have k2 := h2
  have lt2 : ∀ x ∈ p2, x.block < W.heap.size := by obtain ⟨m, hm⟩ := k2; exact DataW.trod_lt m _ _ _ hm
  obtain ⟨c2_0, c2_1, y2_0, y2_1, m2, rfl, hd2, hp2, hy2_0, hy2_1⟩ := Joins.open_agg2 Try.underlying41 (by kernel_rfl) (show Try.prog.cellsOf 41 = 2 by kernel_rfl) (hval 2 41 v2 rfl rfl) h2
  obtain ⟨a2_0, e2_0, _, w2_0⟩ := DataW.trod_int Try.underlying32 hy2_0
  simp only [List.cons.injEq, and_true] at e2_0
  subst e2_0
  obtain ⟨a2_1, e2_1, _, w2_1⟩ := DataW.trod_int Try.underlying32 hy2_1
  simp only [List.cons.injEq, and_true] at e2_1
  subst e2_1
  obtain ⟨a3, rfl, rfl, rfl, w3⟩ := open_int Try.underlying5 (hval 3 5 v3 rfl rfl) h3
  clear hA0 hval0
  refine (walk a0 a1 a2_0 a2_1 a3 W w0 w1 w2_0 w2_1 w3).mono fun e W' ⟨he, bel⟩ => ?_
  subst he
  exact ⟨_, rfl, _, _, _, [], _, [], hW', trodAll_mk1 (shut_bool Try.underlying4 _), (trodAll_cons_mk (shut_int Try.underlying5 w0) (trodAll_cons_mk (shut_int Try.underlying5 w1) (trodAll_cons_mk (Below.trod laidOut (by kernel_rfl) (of_decide_eq_true (by kernel_rfl)) k2 bel lt2) (trodAll_cons_mk (shut_int Try.underlying5 w3) trodAll_mk0)))), rfl, bel.frame _, fun h => by cases h⟩

theorem over : Rows.routesLastRow.holds Try.pinned (OpenSpec.ofChange Rows.routesLastSpec) :=
  OpenClaim.holds_of_wide 7 Try.f7 rfl rfl rfl rfl rfl rfl rfl ⟨rfl, rfl, rfl, rfl, rfl⟩ rfl rfl rfl rfl rfl (by kernel_rfl) Try.func7 (by kernel_rfl)
    (of_decide_eq_true (by kernel_rfl)) (by unfold Func.isWrapper; first | (rw [if_pos (by decide +kernel)]; kernel_rfl) | (rw [if_neg (by decide +kernel)]; exact ⟨rfl, rfl⟩))
    (fun os started H enc _ => lifted os started H enc)

theorem proved : Rows.RoutesLastSaid := over
#print axioms proved
end Go.Proofs.Ytkbhmdoichiinaa.routesLast
