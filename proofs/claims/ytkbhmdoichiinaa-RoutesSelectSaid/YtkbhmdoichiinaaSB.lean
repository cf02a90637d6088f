/- What is done with a prefix that is blocked; Blocked. -/
import Derived.Test.YtkbhmdoichiinaaSA
namespace Go.Proofs.Ytkbhmdoichiinaa.Rts
open Pre Ser
open Go.Proofs.Ytkbhmdoichiinaa.Src (row1 row2)
open Go.ChangeShapes Go.WideShapes Go.ChangeAt Go.RowKit
set_option maxRecDepth 8000
set_option linter.unusedVariables false

open Go.Proofs.Ytkbhmdoichiinaa.Src (Mk SrcAt)
def Blk1Said (w : World) (B wb : Nat) (vv : Value) (bs' : List (Nat × Nat)) (e : Ending) (w' : World) : Prop :=
  e = .returned (.tuple #[]) ∧ ∃ vv', w'.heap[wb]? = some (.cells #[vv'] 59 (0, 0)) ∧ GOwn 39 2 clP w' B vv' bs' ∧ Fr (fun k => k = wb ∨ vv.ownBlock = some k) w w'
set_option maxHeartbeats 8000000 in
theorem blk1_any (w : World) (g0 o0 : Nat) (n c : Nat) (G : List E) (ls qs cs t1 wb B : Nat) (f : Mk) (vv : Value) (bs : List (Nat × Nat)) (hn : n = G.length) (hlen : Hid (n ≤ 1000)) (hn0 : 0 < n) (hsl : ESl w (some ⟨g0, o0, none⟩) G) (hG : ∀ e ∈ G, e.Ok) (hs : SrcAt ls w qs f cs) (hb1 : w.heap[t1]? = some (.cells #[.pointer (some ⟨qs, 0, none⟩)] 46 (0, 0))) (hwb : w.heap[wb]? = some (.cells #[vv] 59 (0, 0))) (hown : GOwn 39 2 clP w B vv bs) (HGN0 : Hid (¬ (g0 = wb ∨ vv.ownBlock = some g0))) (hrl : bs.length ≤ 900) (hB : B ≤ w.heap.size) :
    Calls Try.prog 39 #[.slice (some ⟨g0, o0, none⟩) n c, .pointer (some ⟨t1, 0, none⟩), .pointer (some ⟨wb, 0, none⟩)] w (Blk1Said w B wb vv (bs ++ if G.any (feasE f) then [] else [((G[0]'(hn ▸ hn0)).a, (G[0]'(hn ▸ hn0)).n)])) := by
  obtain ⟨Av, cv, hvv, -, -⟩ := hown.form (fun _ => rfl)
  subst hvv
  obtain ⟨a, ha⟩ : ∃ a, a = (G[0]'(hn ▸ hn0)).a := ⟨_, rfl⟩
  obtain ⟨m, hm⟩ : ∃ m, m = (G[0]'(hn ▸ hn0)).n := ⟨_, rfl⟩
  obtain ⟨fa, hfa⟩ : ∃ fa, fa = G.any (feasE f) := ⟨_, rfl⟩
  rw [← ha, ← hm, ← hfa]
  obtain ⟨bs', hbs'⟩ : ∃ bs', bs' = bs ++ if fa = true then [] else [(a, m)] := ⟨_, rfl⟩
  rw [← hbs']
  have HRS := Lib.hid hbs'
  obtain ⟨b', o', eA, hgl, hE⟩ := hsl 0 (hn ▸ hn0)
  injection eA with eA; injection eA with e1 e2 _
  subst e1 e2
  rw [Nat.zero_mul, Nat.add_zero] at hE
  have HE : Hid (w.cell? ⟨g0, o0, none⟩ = some (.int .u32 (a : Int)) ∧ w.cell? ⟨g0, o0 + 1, none⟩ = some (.int .u8 (m : Int))) := Lib.hid (by rw [ha, hm]; exact ⟨hE.k0, hE.k1⟩)
  have HH := Lib.hid (And.intro hn (And.intro hlen (And.intro hsl (And.intro hG (And.intro hs (And.intro hb1 (And.intro hwb (And.intro hown (And.intro hrl (And.intro hB hfa))))))))))
  obtain ⟨s0, -⟩ := row1 hb1
  have ht1 := (Array.getElem?_eq_some_iff.1 hb1).1
  have hn0' : (0 : Int) < (n : Int) := by omega
  clear hbs' hn hlen hsl hG hs hb1 hwb hown hrl hB hE ha hm hfa
  have hb2 := (Below.refl w.heap.size w).alloc (Nat.le_refl _) (.cells #[.pointer (some ⟨qs, 0, none⟩)] 46)
  have H40 := Lib.hid (contains_any _ (some ⟨g0, o0, none⟩) n c G HH.out.1 HH.out.2.1.out (HH.out.2.2.1.below hb2) HH.out.2.2.2.1 ls qs cs w.heap.size f (HH.out.2.2.2.2.1.below hb2) (heap_alloc_new w (.cells #[.pointer (some ⟨qs, 0, none⟩)] 46)))
  have HB2 := Lib.hid hb2
  rw [← HH.out.2.2.2.2.2.2.2.2.2.2] at H40
  clear hb2
  have HNW : Hid (∀ wn, Below w.heap.size w wn → wn.heap[wb]? = some (.cells #[.slice Av bs.length cv] 59 (0, 0)) ∧ GOwn 39 2 clP wn B (.slice Av bs.length cv) bs) := Lib.hid fun wn hb => ⟨brow hb HH.out.2.2.2.2.2.2.1, HH.out.2.2.2.2.2.2.2.1.kept hb⟩
  cases fa with
  | true =>
    have hre : bs' = bs := by rw [HRS.out, if_pos rfl, List.append_nil]
    have HRE := Lib.hid hre
    clear hre
    go_enter Try.func39, Try.ntmps39
    go_wp2_with (first
      | (go_at_call 36; (with_reducible refine (feasible_any _ qs).mono ?_); rintro en w2 ⟨rfl, rfl⟩)
      | (go_at_call 40; (with_reducible refine H40.out.mono ?_); rintro en w3 ⟨rfl, B3⟩; have H3 := Lib.hid (HB2.out.trans (B3.mono HB2.out.size)); clear B3))
    exact bodyPost_end (v := .tuple #[]) (by simp [results, Try.results39, go_sem]) rfl ⟨rfl, .slice Av bs.length cv, (HNW.out _ H3.out).1, by rw [HRE.out]; exact (HNW.out _ H3.out).2, Fr.of H3.out⟩
  | false =>
    have hre : bs' = bs ++ [(a, m)] := by rw [HRS.out, if_neg (by simp)]
    have HRE := Lib.hid hre
    clear hre
    go_enter Try.func39, Try.ntmps39
    go_upto_region 1 with (first
      | (go_at_call 36; (with_reducible refine (feasible_any _ qs).mono ?_); rintro en w2 ⟨rfl, rfl⟩)
      | (go_at_call 40; (with_reducible refine H40.out.mono ?_); rintro en w3 ⟨rfl, B3⟩; have H3 := Lib.hid (HB2.out.trans (B3.mono HB2.out.size)); clear B3))
    have H4 := Lib.hid ((H3.out).trans ((Below.refl w3.heap.size w3).drew.mono H3.out.size))
    have HGN : Hid (¬ (g0 = wb ∨ (Value.slice Av bs.length cv).ownBlock = some g0)) := HGN0
    have HCU := H4
    clear H4
    refine wp_region_noPanic ?_
    refine wp_region_held_drew (S := fun y : World => Fr (fun k => k = wb ∨ (Value.slice Av bs.length cv).ownBlock = some k) w y) (by kernel_rfl) ((Fr.of H3.out).trans (Fr.of ((Below.refl _ _).drew))) (fun hHeld => ?_)
    generalize w3.drew = wd at *
    refine wpAnyH_take (i := 1) (oi := { dst := some 10, op := Op.move (Operand.tmp 0), type := 26, pos := "routes.go:118", after := #[], guard := none }) (v := .slice (some ⟨g0, o0, none⟩) n c) rfl (by kernel_rfl) (by kernel_rfl) (by kernel_rfl) (fun _ _ _ h => h) (Or.inl ⟨by rfl, fun w hSw => by go_simp⟩) (by assumption) ?_
    try simp only [Act.put, List.setIfInBounds_toArray, List.set_cons_zero, List.set_cons_succ]
    refine wpAnyH_take (i := 2) (oi := { dst := some 11, op := Op.indexAddr 26 (Operand.tmp 10) (Operand.const (Value.int IntKind.i64 0)), type := 0, pos := "routes.go:118", after := #[{ on := 1, ground := Ground.data }], guard := none }) (v := .pointer (some ⟨g0, o0, none⟩)) rfl (by kernel_rfl) (by kernel_rfl) (by kernel_rfl) (fun _ _ _ h => h) (Or.inl ⟨by rfl, fun w hSw => by go_simp⟩) (by assumption) ?_
    try simp only [Act.put, List.setIfInBounds_toArray, List.set_cons_zero, List.set_cons_succ]
    refine wpAnyH_take (i := 3) (oi := { dst := some 12, op := Op.fieldAddr 43 (Operand.tmp 11) 0, type := 0, pos := "routes.go:118", after := #[{ on := 2, ground := Ground.data }], guard := none }) (v := .pointer (some ⟨g0, o0, none⟩)) rfl (by kernel_rfl) (by kernel_rfl) (by kernel_rfl) (fun _ _ _ h => h) (Or.inl ⟨by rfl, fun w hSw => by go_simp⟩) (by assumption) ?_
    try simp only [Act.put, List.setIfInBounds_toArray, List.set_cons_zero, List.set_cons_succ]
    refine wpAnyH_take (i := 4) (oi := { dst := some 13, op := Op.load 39 (Operand.tmp 12), type := 39, pos := "routes.go:118", after := #[{ on := 3, ground := Ground.data }], guard := none }) (v := .agg #[.int .u32 (a : Int), .int .u8 (m : Int)]) rfl (by kernel_rfl) (by kernel_rfl) (by kernel_rfl) (fun _ _ _ h => h) (Or.inl ⟨by rfl, fun w hSw => by obtain ⟨c0, c1⟩ := HE.out; have hbk := hSw.block g0 hgl HGN.out; rw [← World.cell?_of_block (a := ⟨g0, _, none⟩) hbk] at c0 c1; go_simp⟩) (by assumption) ?_
    try simp only [Act.put, List.setIfInBounds_toArray, List.set_cons_zero, List.set_cons_succ]
    refine wpAnyH_ready (rs := [0, 5]) (by kernel_rfl) (by simp) ?_
    refine (AllReadyH.cons (o := { dst := some 9, op := Op.load 59 (Operand.tmp 2), type := 59, pos := "routes.go:118", after := #[], guard := none }) rfl (fun K hK => ?_) (AllReadyH.cons (o := { dst := some 14, op := Op.buildSlice 59 1 #[(0, Operand.tmp 13)], type := 59, pos := "routes.go:118", after := #[{ on := 4, ground := Ground.data }], guard := none }) rfl (fun K hK => ?_) AllReadyH.nil))
    · obtain ⟨b0, -⟩ := row1 (HNW.out _ HCU.out).1
      go_simp
      have hS2 := hHeld
      refine hK.out _ _ hS2 (fun hHeld2 => ?_)
      clear hK K hHeld hS2
      have hHeld := hHeld2
      clear hHeld2
      try simp only [Act.put, List.setIfInBounds_toArray, List.set_cons_zero, List.set_cons_succ]
      clear b0
      refine wpAnyH_ready (rs := [5]) (by kernel_rfl) (by simp) ?_
      refine (AllReadyH.cons (o := { dst := some 14, op := Op.buildSlice 59 1 #[(0, Operand.tmp 13)], type := 59, pos := "routes.go:118", after := #[{ on := 4, ground := Ground.data }], guard := none }) rfl (fun K hK => ?_) AllReadyH.nil)
      go_simp
      have hB3 := (Below.refl wd.heap.size wd).alloc (Nat.le_refl _) (.cells #[.int .u32 (a : Int), .int .u8 (m : Int)] 39)
      have hrow := heap_alloc_new wd (.cells #[.int .u32 (a : Int), .int .u8 (m : Int)] 39)
      have HRB := Lib.hid hrow
      have hS2 := hHeld.step hB3
      have HCU2 := Lib.hid (HCU.out.trans (hB3.mono HCU.out.size))
      clear hB3 hrow HCU
      have HCU := HCU2
      clear HCU2
      generalize wd.heap.size = rb at *
      generalize wd.alloc _ = wn at *
      refine hK.out _ _ hS2 (fun hHeld2 => ?_)
      clear hK K hHeld hS2
      have hHeld := hHeld2
      clear hHeld2
      try simp only [Act.put, List.setIfInBounds_toArray, List.set_cons_zero, List.set_cons_succ]
      clear wd
      generalize wn = wd at *
      refine wpAnyH_ready (rs := [6]) (by kernel_rfl) (by simp) ?_
      refine (AllReadyH.cons (o := { dst := some 15, op := Op.call { callee := Callee.builtin Builtin.append, args := #[Operand.tmp 9, Operand.tmp 14], argTypes := #[59, 59] }, type := 59, pos := "routes.go:118", after := #[{ on := 0, ground := Ground.data }, { on := 5, ground := Ground.data }], guard := none }) rfl (fun K hK => ?_) AllReadyH.nil)
      obtain ⟨v5, w5, hrun, O5, G5⟩ := papp_run wd B (.slice Av bs.length cv) bs (a, m) rb (HNW.out _ HCU.out).2 HRB.out (by have := HH.out.2.2.2.2.2.2.2.2.1; omega) (Nat.le_trans HH.out.2.2.2.2.2.2.2.2.2.1 HCU.out.size)
      refine Lib.wp_append_run _ (.tmp 9) (.tmp 14) 59 59 rfl _ _ rfl rfl _ _ hrun ?_
      obtain ⟨A5, c5, hv5, -, -⟩ := O5.form (fun _ => rfl)
      obtain ⟨n5, hn5⟩ : ∃ n5, n5 = (bs ++ [(a, m)]).length := ⟨_, rfl⟩
      rw [← hn5] at hv5
      have hr5 : w5.heap[wb]? = some (.cells #[.slice Av bs.length cv] 59 (0, 0)) := (G5.block wb (Array.getElem?_eq_some_iff.1 (HNW.out _ HCU.out).1).1 (fun e => ((HNW.out _ HCU.out).2.ne (HNW.out _ HCU.out).1 (by decide)) e.symm)).trans (HNW.out _ HCU.out).1
      subst hv5
      have hS2 := hHeld.trans (Fr.grown (X := fun k => k = wb ∨ (Value.slice Av bs.length cv).ownBlock = some k) G5 (fun k e => Or.inr e))
      have HX := Lib.hid (And.intro O5 hr5)
      clear O5 G5 hr5 hn5 hrun
      refine hK.out _ _ hS2 (fun hHeld2 => ?_)
      clear hK K hHeld hS2
      have hHeld := hHeld2
      clear hHeld2
      try simp only [Act.put, List.setIfInBounds_toArray, List.set_cons_zero, List.set_cons_succ]
      refine wpAnyH_ready (rs := [7]) (by kernel_rfl) (by simp) ?_
      refine (AllReadyH.cons (o := { dst := none, op := Op.store 59 (Operand.tmp 2) (Operand.tmp 15), type := 0, pos := "routes.go:118", after := #[{ on := 6, ground := Ground.data }, { on := 6, ground := Ground.chain }, { on := 0, ground := Ground.phase }, { on := 1, ground := Ground.phase }, { on := 2, ground := Ground.phase }, { on := 3, ground := Ground.phase }, { on := 4, ground := Ground.phase }, { on := 5, ground := Ground.phase }, { on := 6, ground := Ground.phase }], guard := none }) rfl (fun K hK => ?_) AllReadyH.nil)
      obtain ⟨e0, ef⟩ := row1 HX.out.2
      have hwl5 : wb < w5.heap.size := (Array.getElem?_eq_some_iff.1 HX.out.2).1
      go_simp
      have hS2 := hHeld.trans (Fr.grown (X := fun k => k = wb ∨ (Value.slice Av bs.length cv).ownBlock = some k) (grown_setCell w5 wb 0 (.slice A5 n5 c5)) (fun k e => Or.inl (Option.some.inj e).symm))
      have HY := Lib.hid (And.intro (heap_setCell_same w5 wb 0 _ 59 (.slice A5 n5 c5) HX.out.2) (gown_set HX.out.1 HX.out.2 (by decide) (.slice A5 n5 c5)))
      clear e0 ef hwl5
      generalize w5.setCell _ _ = w6 at *
      refine hK.out _ _ hS2 (fun hHeld2 => ?_)
      clear hK K hHeld hS2
      have hHeld := hHeld2
      clear hHeld2
      try simp only [Act.put, List.setIfInBounds_toArray, List.set_cons_zero, List.set_cons_succ]
      refine wpAnyH_done (by kernel_rfl) ?_ _
      try unfold NoPanic
      go_wp2
      exact bodyPost_end (v := .tuple #[]) (by simp [results, Try.results39, go_sem]) rfl ⟨rfl, .slice A5 n5 c5, HY.out.1, by rw [HRE.out]; exact HY.out.2, hHeld⟩
    · go_simp
      have hB3 := (Below.refl wd.heap.size wd).alloc (Nat.le_refl _) (.cells #[.int .u32 (a : Int), .int .u8 (m : Int)] 39)
      have hrow := heap_alloc_new wd (.cells #[.int .u32 (a : Int), .int .u8 (m : Int)] 39)
      have HRB := Lib.hid hrow
      have hS2 := hHeld.step hB3
      have HCU2 := Lib.hid (HCU.out.trans (hB3.mono HCU.out.size))
      clear hB3 hrow HCU
      have HCU := HCU2
      clear HCU2
      generalize wd.heap.size = rb at *
      generalize wd.alloc _ = wn at *
      refine hK.out _ _ hS2 (fun hHeld2 => ?_)
      clear hK K hHeld hS2
      have hHeld := hHeld2
      clear hHeld2
      try simp only [Act.put, List.setIfInBounds_toArray, List.set_cons_zero, List.set_cons_succ]
      clear wd
      generalize wn = wd at *
      refine wpAnyH_ready (rs := [0]) (by kernel_rfl) (by simp) ?_
      refine (AllReadyH.cons (o := { dst := some 9, op := Op.load 59 (Operand.tmp 2), type := 59, pos := "routes.go:118", after := #[], guard := none }) rfl (fun K hK => ?_) AllReadyH.nil)
      obtain ⟨b0, -⟩ := row1 (HNW.out _ HCU.out).1
      go_simp
      have hS2 := hHeld
      refine hK.out _ _ hS2 (fun hHeld2 => ?_)
      clear hK K hHeld hS2
      have hHeld := hHeld2
      clear hHeld2
      try simp only [Act.put, List.setIfInBounds_toArray, List.set_cons_zero, List.set_cons_succ]
      clear b0
      refine wpAnyH_ready (rs := [6]) (by kernel_rfl) (by simp) ?_
      refine (AllReadyH.cons (o := { dst := some 15, op := Op.call { callee := Callee.builtin Builtin.append, args := #[Operand.tmp 9, Operand.tmp 14], argTypes := #[59, 59] }, type := 59, pos := "routes.go:118", after := #[{ on := 0, ground := Ground.data }, { on := 5, ground := Ground.data }], guard := none }) rfl (fun K hK => ?_) AllReadyH.nil)
      obtain ⟨v5, w5, hrun, O5, G5⟩ := papp_run wd B (.slice Av bs.length cv) bs (a, m) rb (HNW.out _ HCU.out).2 HRB.out (by have := HH.out.2.2.2.2.2.2.2.2.1; omega) (Nat.le_trans HH.out.2.2.2.2.2.2.2.2.2.1 HCU.out.size)
      refine Lib.wp_append_run _ (.tmp 9) (.tmp 14) 59 59 rfl _ _ rfl rfl _ _ hrun ?_
      obtain ⟨A5, c5, hv5, -, -⟩ := O5.form (fun _ => rfl)
      obtain ⟨n5, hn5⟩ : ∃ n5, n5 = (bs ++ [(a, m)]).length := ⟨_, rfl⟩
      rw [← hn5] at hv5
      have hr5 : w5.heap[wb]? = some (.cells #[.slice Av bs.length cv] 59 (0, 0)) := (G5.block wb (Array.getElem?_eq_some_iff.1 (HNW.out _ HCU.out).1).1 (fun e => ((HNW.out _ HCU.out).2.ne (HNW.out _ HCU.out).1 (by decide)) e.symm)).trans (HNW.out _ HCU.out).1
      subst hv5
      have hS2 := hHeld.trans (Fr.grown (X := fun k => k = wb ∨ (Value.slice Av bs.length cv).ownBlock = some k) G5 (fun k e => Or.inr e))
      have HX := Lib.hid (And.intro O5 hr5)
      clear O5 G5 hr5 hn5 hrun
      refine hK.out _ _ hS2 (fun hHeld2 => ?_)
      clear hK K hHeld hS2
      have hHeld := hHeld2
      clear hHeld2
      try simp only [Act.put, List.setIfInBounds_toArray, List.set_cons_zero, List.set_cons_succ]
      refine wpAnyH_ready (rs := [7]) (by kernel_rfl) (by simp) ?_
      refine (AllReadyH.cons (o := { dst := none, op := Op.store 59 (Operand.tmp 2) (Operand.tmp 15), type := 0, pos := "routes.go:118", after := #[{ on := 6, ground := Ground.data }, { on := 6, ground := Ground.chain }, { on := 0, ground := Ground.phase }, { on := 1, ground := Ground.phase }, { on := 2, ground := Ground.phase }, { on := 3, ground := Ground.phase }, { on := 4, ground := Ground.phase }, { on := 5, ground := Ground.phase }, { on := 6, ground := Ground.phase }], guard := none }) rfl (fun K hK => ?_) AllReadyH.nil)
      obtain ⟨e0, ef⟩ := row1 HX.out.2
      have hwl5 : wb < w5.heap.size := (Array.getElem?_eq_some_iff.1 HX.out.2).1
      go_simp
      have hS2 := hHeld.trans (Fr.grown (X := fun k => k = wb ∨ (Value.slice Av bs.length cv).ownBlock = some k) (grown_setCell w5 wb 0 (.slice A5 n5 c5)) (fun k e => Or.inl (Option.some.inj e).symm))
      have HY := Lib.hid (And.intro (heap_setCell_same w5 wb 0 _ 59 (.slice A5 n5 c5) HX.out.2) (gown_set HX.out.1 HX.out.2 (by decide) (.slice A5 n5 c5)))
      clear e0 ef hwl5
      generalize w5.setCell _ _ = w6 at *
      refine hK.out _ _ hS2 (fun hHeld2 => ?_)
      clear hK K hHeld hS2
      have hHeld := hHeld2
      clear hHeld2
      try simp only [Act.put, List.setIfInBounds_toArray, List.set_cons_zero, List.set_cons_succ]
      refine wpAnyH_done (by kernel_rfl) ?_ _
      try unfold NoPanic
      go_wp2
      exact bodyPost_end (v := .tuple #[]) (by simp [results, Try.results39, go_sem]) rfl ⟨rfl, .slice A5 n5 c5, HY.out.1, by rw [HRE.out]; exact HY.out.2, hHeld⟩
/-- What stands between two prefixes while it is asked which are blocked. -/
structure BlkI (w : World) (qs : Nat) (f : Mk) (L : List E) (k : Nat) (W : World) : Prop where
  b : Below w.heap.size w W
  r0 : W.heap[w.heap.size]? = some (.cells #[.pointer (some ⟨qs, 0, none⟩)] 46 (0, 0))
  l : ∃ vv bs, W.heap[w.heap.size + 1]? = some (.cells #[vv] 59 (0, 0)) ∧ GOwn 39 2 clP W w.heap.size vv bs ∧ BlkOK f (L.take k) bs ∧ bs.length ≤ k
theorem BlkI.step {w W W' : World} {qs : Nat} {f : Mk} {L : List E} {k : Nat} (h : BlkI w qs f L k W) (B : Below W.heap.size W W') : BlkI w qs f L k W' := by
  obtain ⟨vv, bs, h1, h2, h3⟩ := h.l
  exact ⟨h.b.trans (B.mono h.b.size), brow B h.r0, vv, bs, brow B h1, h2.kept B, h3⟩
theorem blk_grp {w : World} {lo q : Nat} {v : Value} {L : List E} {ls qs cs : Nat} {f : Mk} (h : RtsAt lo w q L v) (hr : Rising L) (hL : ∀ e ∈ L, e.Ok) (hlen : L.length ≤ 900) (hs : SrcAt ls w qs f cs)
    (i j : Nat) (W : World) (gb cp : Nat) (hv : v = .slice (some ⟨gb, 0, none⟩) L.length cp) (hI : BlkI w qs f L i W) (g : Grp L i j) :
    Calls Try.prog 39 #[.slice (some ⟨gb, i * 7, none⟩) (j - i) (cp - i), .pointer (some ⟨w.heap.size, 0, none⟩), .pointer (some ⟨w.heap.size + 1, 0, none⟩)] W fun en w' => en = .returned (.tuple #[]) ∧ BlkI w qs f L j w' := by
  obtain ⟨vv, bs, h1, h2, h3, h4⟩ := hI.l
  have hij := g.lt
  have hjl := g.le
  have hrW := h.kept hI.b
  have hG : ∀ e ∈ (L.drop i).take (j - i), e.Ok := fun e he => hL e (List.mem_of_mem_drop (List.mem_of_mem_take he))
  have hgl : gb < w.heap.size := (own_lt h.own (by rw [hv]; rfl)).2
  have c := blk1_any W gb (i * 7) (j - i) (cp - i) ((L.drop i).take (j - i)) ls qs cs w.heap.size (w.heap.size + 1) w.heap.size f vv bs (by rw [List.length_take, List.length_drop]; omega) (Lib.hid (by omega)) (by omega) (esl_sub (hv ▸ hrW.own) (by omega) hjl) hG (hs.below hI.b) hI.r0 h1 h2 (Lib.hid (fun e => by
    rcases e with e | e
    · omega
    · have := (h2.lt e).1; omega)) (by omega) hI.b.size
  have e0 : ((L.drop i).take (j - i))[0]'(by rw [List.length_take, List.length_drop]; omega) = L[i]'(Nat.lt_of_lt_of_le g.lt g.le) := by
    rw [List.getElem_take, List.getElem_drop]; rfl
  rw [e0] at c
  refine c.mono fun en w' ⟨e1, vv', k1, k2, F⟩ => ⟨e1, ?_, ?_, vv', _, k1, k2, h3.grp g hr hL, ?_⟩
  · refine hI.b.trans (Fr.below F hI.b.size (fun k hk => ?_))
    rcases hk with rfl | hk
    · omega
    · exact (h2.lt hk).1
  · exact F.row hI.r0 (fun hk => by
      rcases hk with hk | hk
      · omega
      · exact h2.ne hI.r0 (by decide) hk)
  · rw [List.length_append]
    split <;> simp <;> omega
set_option maxHeartbeats 2000000 in
theorem blocked_any (w : World) (lo q : Nat) (v : Value) (L : List E) (h : RtsAt lo w q L v) (hr : Rising L) (hL : ∀ e ∈ L, e.Ok) (hlen : L.length ≤ 900) (ls qs cs : Nat) (f : Mk) (hs : SrcAt ls w qs f cs) :
    Calls Try.prog 21 #[.pointer (some ⟨q, 0, none⟩), .pointer (some ⟨qs, 0, none⟩)] w fun en w' => ∃ vv bs, en = .returned vv ∧ BlkOK f L bs ∧ GOwn 39 2 clP w' w.heap.size vv bs ∧ Below w.heap.size w w' ∧ bs.length ≤ L.length := by
  have B2 := ((Below.refl w.heap.size w).alloc (Nat.le_refl _) (.cells #[.pointer (some ⟨qs, 0, none⟩)] 46)).alloc (by simp) (.cells #[.slice none 0 0] 59)
  have r0 : ((w.alloc (.cells #[.pointer (some ⟨qs, 0, none⟩)] 46)).alloc (.cells #[.slice none 0 0] 59)).heap[w.heap.size]? = some (.cells #[.pointer (some ⟨qs, 0, none⟩)] 46 (0, 0)) := (heap_alloc_old _ (.cells #[.slice none 0 0] 59) (by simp)).trans (heap_alloc_new w (.cells #[.pointer (some ⟨qs, 0, none⟩)] 46))
  have r1 := Src.heap_new1 w (.cells #[.pointer (some ⟨qs, 0, none⟩)] 46) (.cells #[.slice none 0 0] 59)
  have hI0 : BlkI w qs f L 0 ((w.alloc (.cells #[.pointer (some ⟨qs, 0, none⟩)] 46)).alloc (.cells #[.slice none 0 0] 59)) := ⟨B2, r0, .slice none 0 0, [], r1, GOwn.nil _ _ _ _ _, BlkOK.nil f, Nat.le_refl _⟩
  have c33 := each_any ((w.alloc (.cells #[.pointer (some ⟨qs, 0, none⟩)] 46)).alloc (.cells #[.slice none 0 0] 59)) lo q v L (by omega) 39 #[.pointer (some ⟨w.heap.size, 0, none⟩), .pointer (some ⟨w.heap.size + 1, 0, none⟩)] (enters_of Try.func39 (by kernel_rfl) rfl) (BlkI w qs f L) hI0 (fun k W W' hI B => hI.step B) (fun k W hI => h.kept hI.b) (fun i j W gb cp hv hI g => by
    have := blk_grp h hr hL hlen hs i j W gb cp hv hI g
    simpa using this)
  have HC := Lib.hid c33
  clear c33 r0 r1 B2 hI0 h hr hL hlen hs
  go_enter Try.func21, Try.ntmps21
  go_upto_region 3 with (go_at_call 33; (with_reducible refine HC.out.mono ?_); rintro en w5 ⟨rfl, hI⟩; have HI := Lib.hid hI; clear hI)
  obtain ⟨vv, bs, h1, h2, h3, h4⟩ := HI.out.l
  obtain ⟨A5, c5, hv5, -, -⟩ := h2.form (fun _ => rfl)
  obtain ⟨n5, hn5⟩ : ∃ n5, n5 = bs.length := ⟨_, rfl⟩
  rw [← hn5] at hv5
  subst hv5
  obtain ⟨b0, -⟩ := row1 h1
  rw [List.take_length] at h3
  have HZ := Lib.hid (And.intro h3 (And.intro h2 (And.intro HI.out.b h4)))
  clear h1 h2 h3 h4 hn5
  go_wp2
  go_ret
  exact ⟨_, bs, rfl, HZ.out⟩
end Go.Proofs.Ytkbhmdoichiinaa.Rts
