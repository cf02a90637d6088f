/- What is done with the ways of a prefix. Select. Blocked. What is done with a prefix that is blocked; Blocked. -/
import Derived.Test.YtjbogjbopgcbhaaGreatDoorYD
namespace Go.Proofs.YtjbogjbopgcbhaaGreatDoor.Rts
open Pre Ser
open Go.Proofs.YtjbogjbopgcbhaaGreatDoor.Src (row1 row2)
open Go.ChangeShapes Go.WideShapes Go.ChangeAt Go.RowKit
set_option maxRecDepth 8000
set_option linter.unusedVariables false
open Go.Proofs.YtjbogjbopgcbhaaGreatDoor.Src (Mk SrcAt)
theorem info53 : (Tryz.prog.info? 40).map (fun i => (i.zero, i.size, i.bytes)) = some (some (.agg #[.int .u32 0, .int .u8 0, .int .i64 0, .int .u16 0, .int .u16 0]), 5, 24) := by kernel_rfl
theorem ro_one (x : Ro) : ∀ u ∈ x.cl, u.oneCell' = true := by
  intro u hu
  simp [Ro.cl] at hu
  rcases hu with rfl | rfl | rfl | rfl | rfl <;> rfl
theorem ro_at {w : World} {b : Nat} {r : Ro} (h : w.heap[b]? = some (.cells #[.int .u32 (r.a : Int), .int .u8 (r.n : Int), .int .i64 (r.v : Int), .int .u16 (r.m : Int), .int .u16 (r.s : Int)] 40 (0, 0))) : ∀ j u, (Ro.cl r)[j]? = some u → w.cell? ((⟨b, 0, none⟩ : Addr).add j) = some u := fun j u hj => by
  rw [Addr.add_lit, Nat.zero_add, cell_of_row _ _ j _ 40 (0, 0) h, ← hj]
  have : (#[.int .u32 (r.a : Int), .int .u8 (r.n : Int), .int .i64 (r.v : Int), .int .u16 (r.m : Int), .int .u16 (r.s : Int)] : Array Value) = (Ro.cl r).toArray := rfl
  rw [this]
  simp
theorem rapp_run (w : World) (B : Nat) (v : Value) (l : List Ro) (x : Ro) (b : Nat) (hown : GOwn 40 5 Ro.cl w B v l) (hc : w.heap[b]? = some (.cells #[.int .u32 (x.a : Int), .int .u8 (x.n : Int), .int .i64 (x.v : Int), .int .u16 (x.m : Int), .int .u16 (x.s : Int)] 40 (0, 0))) (hlen : l.length ≤ 1000) (hB : B ≤ w.heap.size) :
    ∃ v' w', (Builtin.append_ #[37, 37] 37 #[v, .slice (some ⟨b, 0, none⟩) 1 1]).run Tryz.prog w = .ok v' w' ∧ GOwn 40 5 Ro.cl w' B v' (l ++ [x]) ∧ w.grownBy w' v.ownBlock := by
  obtain ⟨i0, hi0, hz0, hz1, hz2⟩ := info_parts info53
  exact gapp_run Tryz.underlying37 hi0 hz0 hz1 hz2 rfl (by decide) (fun _ => rfl) ro_one (by decide) w B v l x b hown (ro_at hc) hlen hB
theorem gown_set {α : Type} {t : TypeId} {k : Nat} {cl : α → List Value} {w : World} {B : Nat} {v : Value} {l : List α} (h : GOwn t k cl w B v l) {b : Nat} {x : Array Value} {u : TypeId} (hr : w.heap[b]? = some (.cells x u (0, 0))) (hu : u ≠ t) (y : Value) : GOwn t k cl (w.setCell ⟨b, 0, none⟩ y) B v l :=
  World.ownsRow.kept (row := some b) h (grown_setCell w b 0 y) (Or.inr (h.ne hr hu))
def Sel1Said (w : World) (B wb : Nat) (vv : Value) (rs' : List Ro) (e : Ending) (w' : World) : Prop :=
  e = .returned (.tuple #[]) ∧ ∃ vv', w'.heap[wb]? = some (.cells #[vv'] 37 (0, 0)) ∧ GOwn 40 5 Ro.cl w' B vv' rs' ∧ Fr (fun k => k = wb ∨ vv.ownBlock = some k) w w'
set_option maxHeartbeats 8000000 in
theorem sel1_any (w : World) (A : Option Addr) (n c : Nat) (G : List E) (Ac : Option Addr) (nc cc : Nat) (cf : Nat → Nat) (ls qs cs t1 t2 wb B : Nat) (f : Mk) (vv : Value) (rs : List Ro) (hn : n = G.length) (hlen : Hid (n ≤ 1000)) (hsl : ESl w A G) (hG : ∀ e ∈ G, e.Ok) (hs : SrcAt ls w qs f cs) (hb1 : w.heap[t1]? = some (.cells #[.pointer (some ⟨qs, 0, none⟩)] 89 (0, 0))) (hb2 : w.heap[t2]? = some (.cells #[.slice Ac nc cc] 104 (0, 0))) (hco : CostAt w Ac nc cf) (hwb : w.heap[wb]? = some (.cells #[vv] 37 (0, 0))) (hown : GOwn 40 5 Ro.cl w B vv rs) (hrl : rs.length ≤ 900) (hB : B ≤ w.heap.size) :
    Calls Tryz.prog 90 #[.slice A n c, .pointer (some ⟨t1, 0, none⟩), .pointer (some ⟨t2, 0, none⟩), .pointer (some ⟨wb, 0, none⟩)] w (Sel1Said w B wb vv (rs ++ if (short cf f G).1 < 65535 then [(short cf f G).2] else [])) := by
  obtain ⟨Av, cv, hvv, -, -⟩ := hown.form (fun _ => rfl)
  subst hvv
  obtain ⟨sx, hsx⟩ : ∃ sx, sx = (short cf f G).1 := ⟨_, rfl⟩
  obtain ⟨sr, hsr⟩ : ∃ sr, sr = (short cf f G).2 := ⟨_, rfl⟩
  have HSH := Lib.hid (And.intro hsr hsx)
  rw [← hsx, ← hsr]
  obtain ⟨rs', hrs'⟩ : ∃ rs', rs' = rs ++ if sx < 65535 then [sr] else [] := ⟨_, rfl⟩
  rw [← hrs']
  have HRS := Lib.hid hrs'
  clear hrs'
  have HH := Lib.hid (And.intro hn (And.intro hlen (And.intro hsl (And.intro hG (And.intro hs (And.intro hb1 (And.intro hb2 (And.intro hco (And.intro hwb (And.intro hown (And.intro hrl hB)))))))))))
  clear hsx hsr hn hlen hsl hG hs hb1 hb2 hco hwb hown hrl hB
  go_enter Tryz.func90, Tryz.ntmps90
  go_upto_region 0 with (fail)
  refine wp_region_noPanic ?_
  refine wp_region_held_drew (S := fun y : World => Below w.heap.size w y) (by kernel_rfl) ((Below.refl _ _).drew) (fun hHeld => ?_)
  generalize w.drew = wd at *
  refine wpAnyH_take (i := 0) (oi := ⟨some 8, .move (.tmp 0), 149, "routes.go:106", #[], none⟩) (v := .slice A n c) rfl (by kernel_rfl) (by kernel_rfl) (by kernel_rfl) (fun _ _ _ h => h) (Or.inl ⟨by rfl, fun w hSw => by go_simp⟩) (by assumption) ?_
  try simp only [Act.put, List.setIfInBounds_toArray, List.set_cons_zero, List.set_cons_succ]
  refine wpAnyH_take (i := 1) (oi := ⟨some 9, .load 89 (.tmp 1), 89, "routes.go:106", #[], none⟩) (v := .pointer (some ⟨qs, 0, none⟩)) rfl (by kernel_rfl) (by kernel_rfl) (by kernel_rfl) (fun _ _ _ h => h) (Or.inl ⟨by rfl, fun w hSw => by obtain ⟨p0, -⟩ := row1 (brow hSw HH.out.2.2.2.2.2.1); go_simp⟩) (by assumption) ?_
  try simp only [Act.put, List.setIfInBounds_toArray, List.set_cons_zero, List.set_cons_succ]
  refine wpAnyH_take (i := 3) (oi := ⟨some 11, .load 104 (.tmp 2), 104, "routes.go:106", #[], none⟩) (v := .slice Ac nc cc) rfl (by kernel_rfl) (by kernel_rfl) (by kernel_rfl) (fun _ _ _ h => h) (Or.inl ⟨by rfl, fun w hSw => by obtain ⟨p0, -⟩ := row1 (brow hSw HH.out.2.2.2.2.2.2.1); go_simp⟩) (by assumption) ?_
  try simp only [Act.put, List.setIfInBounds_toArray, List.set_cons_zero, List.set_cons_succ]
  refine wpAnyH_ready (rs := [2, 8]) (by kernel_rfl) (by simp) ?_
  refine (AllReadyH.cons (o := ⟨some 10, .call ⟨.value (.func 92), #[.tmp 9], #[89]⟩, 151, "routes.go:106", #[⟨1, .data⟩], none⟩) rfl (fun K hK => ?_) (AllReadyH.cons (o := ⟨some 5, .alloc 40, 0, "routes.go:106", #[], none⟩) rfl (fun K hK => ?_) AllReadyH.nil))
  · go_simp
    with_reducible refine (feasible_any _ qs).mono ?_
    rintro en wn ⟨rfl, hwn⟩
    have hB2 := (Below.refl wd.heap.size wd).alloc (Nat.le_refl _) (.cells #[.pointer (some ⟨qs, 0, none⟩)] 89)
    have hrow := heap_alloc_new wd (.cells #[.pointer (some ⟨qs, 0, none⟩)] 89)
    rw [← hwn] at hB2 hrow
    have HFB := Lib.hid hrow
    try replace HRB := Lib.hid (brow hB2 HRB.out)
    have hS2 := hHeld.trans (hB2.mono hHeld.size)
    clear hwn hB2 hrow
    refine hK.out _ _ hS2 (fun hHeld2 => ?_)
    clear hK K hHeld hS2
    have hHeld := hHeld2
    clear hHeld2
    try simp only [Act.put, List.setIfInBounds_toArray, List.set_cons_zero, List.set_cons_succ]
    generalize wd.heap.size = fb at *
    clear wd
    generalize wn = wd at *
    refine wpAnyH_ready (rs := [4, 8]) (by kernel_rfl) (by simp) ?_
    refine (AllReadyH.cons (o := ⟨some 12, .call ⟨.value (.func 91), #[.tmp 8, .tmp 10, .tmp 11], #[149, 151, 104]⟩, 41, "routes.go:106", #[⟨0, .data⟩, ⟨2, .data⟩, ⟨3, .data⟩, ⟨2, .chain⟩], none⟩) rfl (fun K hK => ?_) (AllReadyH.cons (o := ⟨some 5, .alloc 40, 0, "routes.go:106", #[], none⟩) rfl (fun K hK => ?_) AllReadyH.nil))
    · go_simp
      with_reducible refine (short_any _ A n c G HH.out.1 HH.out.2.1.out (HH.out.2.2.1.below hHeld) HH.out.2.2.2.1 Ac nc cc cf (HH.out.2.2.2.2.2.2.2.1.below hHeld) ls qs cs fb f (HH.out.2.2.2.2.1.below hHeld) HFB.out).mono ?_
      rintro en wn ⟨rfl, hB2⟩
      try replace HRB := Lib.hid (brow hB2 HRB.out)
      have hS2 := hHeld.trans (hB2.mono hHeld.size)
      clear hB2 HFB
      rw [← HSH.out.1, ← HSH.out.2]
      refine hK.out _ _ hS2 (fun hHeld2 => ?_)
      clear hK K hHeld hS2
      have hHeld := hHeld2
      clear hHeld2
      try simp only [Act.put, List.setIfInBounds_toArray, List.set_cons_zero, List.set_cons_succ]
      clear wd
      generalize wn = wd at *
      refine wpAnyH_take (i := 5) (oi := ⟨some 7, .move (.tmp 12), 41, "routes.go:106", #[⟨4, .data⟩], none⟩) (v := .tuple #[.agg #[.int .u32 (sr.a : Int), .int .u8 (sr.n : Int), .int .i64 (sr.v : Int), .int .u16 (sr.m : Int), .int .u16 (sr.s : Int)], .bool (decide (sx < 65535))]) rfl (by kernel_rfl) (by kernel_rfl) (by kernel_rfl) (fun _ _ _ h => h) (Or.inl ⟨by rfl, fun w hSw => by go_simp⟩) (by assumption) ?_
      try simp only [Act.put, List.setIfInBounds_toArray, List.set_cons_zero, List.set_cons_succ]
      refine wpAnyH_take (i := 6) (oi := ⟨some 13, .extract (.tmp 7) 0, 40, "routes.go:106", #[⟨5, .data⟩], none⟩) (v := .agg #[.int .u32 (sr.a : Int), .int .u8 (sr.n : Int), .int .i64 (sr.v : Int), .int .u16 (sr.m : Int), .int .u16 (sr.s : Int)]) rfl (by kernel_rfl) (by kernel_rfl) (by kernel_rfl) (fun _ _ _ h => h) (Or.inl ⟨by rfl, fun w hSw => by go_simp⟩) (by assumption) ?_
      try simp only [Act.put, List.setIfInBounds_toArray, List.set_cons_zero, List.set_cons_succ]
      refine wpAnyH_take (i := 7) (oi := ⟨some 14, .extract (.tmp 7) 1, 4, "routes.go:106", #[⟨5, .data⟩, ⟨9, .gcOnly .lateStores⟩], none⟩) (v := .bool (decide (sx < 65535))) rfl (by kernel_rfl) (by kernel_rfl) (by kernel_rfl) (fun _ _ _ h => h) (Or.inl ⟨by rfl, fun w hSw => by go_simp⟩) (by assumption) ?_
      try simp only [Act.put, List.setIfInBounds_toArray, List.set_cons_zero, List.set_cons_succ]
      refine wpAnyH_ready (rs := [8]) (by kernel_rfl) (by simp) ?_
      refine (AllReadyH.cons (o := ⟨some 5, .alloc 40, 0, "routes.go:106", #[], none⟩) rfl (fun K hK => ?_) AllReadyH.nil)
      go_simp
      have hB2 := (Below.refl wd.heap.size wd).alloc (Nat.le_refl _) (.cells #[.int .u32 0, .int .u8 0, .int .i64 0, .int .u16 0, .int .u16 0] 40)
      have hrow := heap_alloc_new wd (.cells #[.int .u32 0, .int .u8 0, .int .i64 0, .int .u16 0, .int .u16 0] 40)
      have HRB := Lib.hid hrow
      try replace HFB := Lib.hid (brow hB2 HFB.out)
      have hS2 := hHeld.trans (hB2.mono hHeld.size)
      have HRL := Lib.hid hHeld.size
      clear hB2 hrow
      generalize wd.heap.size = rb at *
      generalize wd.alloc _ = wn at *
      refine hK.out _ _ hS2 (fun hHeld2 => ?_)
      clear hK K hHeld hS2
      have hHeld := hHeld2
      clear hHeld2
      try simp only [Act.put, List.setIfInBounds_toArray, List.set_cons_zero, List.set_cons_succ]
      clear wd
      generalize wn = wd at *
      refine wpAnyH_ready (rs := [9]) (by kernel_rfl) (by simp) ?_
      refine (AllReadyH.cons (o := ⟨none, .store 40 (.tmp 5) (.tmp 13), 0, "routes.go:106", #[⟨8, .data⟩, ⟨6, .data⟩, ⟨4, .chain⟩, ⟨0, .phase⟩, ⟨1, .phase⟩, ⟨2, .phase⟩, ⟨3, .phase⟩, ⟨4, .phase⟩, ⟨5, .phase⟩, ⟨6, .phase⟩, ⟨7, .textOnly .lateStores⟩, ⟨8, .phase⟩], none⟩) rfl (fun K hK => ?_) AllReadyH.nil)
      obtain ⟨z0, z1, z2, z3, z4, zf⟩ := row5' HRB.out
      have hrl : rb < wd.heap.size := (Array.getElem?_eq_some_iff.1 HRB.out).1
      go_simp
      have HFin := Lib.hid (And.intro (set5 HRB.out (.int .u32 (sr.a : Int)) (.int .u8 (sr.n : Int)) (.int .i64 (sr.v : Int)) (.int .u16 (sr.m : Int)) (.int .u16 (sr.s : Int))) (grown5 wd rb (.int .u32 (sr.a : Int)) (.int .u8 (sr.n : Int)) (.int .i64 (sr.v : Int)) (.int .u16 (sr.m : Int)) (.int .u16 (sr.s : Int))))
      have hS2 := hHeld.grown HFin.out.2 hHeld.size (fun k e => by have := Option.some.inj e; subst this; exact HRL.out)
      clear z0 z1 z2 z3 z4 zf hrl
      generalize ((((wd.setCell _ _).setCell _ _).setCell _ _).setCell _ _).setCell _ _ = wn at *
      refine hK.out _ _ hS2 (fun hHeld2 => ?_)
      clear hK K hHeld hS2
      have hHeld := hHeld2
      clear hHeld2
      try simp only [Act.put, List.setIfInBounds_toArray, List.set_cons_zero, List.set_cons_succ]
      refine wpAnyH_take (i := 10) (oi := ⟨some 6, .assign (.tmp 14), 4, "routes.go:106", #[⟨7, .data⟩, ⟨9, .chain⟩, ⟨0, .phase⟩, ⟨1, .phase⟩, ⟨2, .phase⟩, ⟨3, .phase⟩, ⟨4, .phase⟩, ⟨5, .phase⟩, ⟨6, .phase⟩, ⟨7, .phase⟩, ⟨8, .phase⟩, ⟨9, .phase⟩], none⟩) (v := .bool (decide (sx < 65535))) rfl (by kernel_rfl) (by kernel_rfl) (by kernel_rfl) (fun _ _ _ h => h) (Or.inl ⟨by rfl, fun w hSw => by go_simp⟩) (by assumption) ?_
      try simp only [Act.put, List.setIfInBounds_toArray, List.set_cons_zero, List.set_cons_succ]
      refine wpAnyH_done (by kernel_rfl) ?_ _
      try unfold NoPanic
      replace HFin := Lib.hid HFin.out.1
      have HT := Lib.hid (And.intro (brow hHeld HH.out.2.2.2.2.2.2.2.2.1) (And.intro (HH.out.2.2.2.2.2.2.2.2.2.1.kept hHeld) hHeld))
      clear hHeld
      obtain ⟨b0, bf⟩ := row1 HT.out.1
      have hwl : wb < wn.heap.size := (Array.getElem?_eq_some_iff.1 HT.out.1).1
      have hrbl : rb < wn.heap.size := (Array.getElem?_eq_some_iff.1 HFin.out).1
      obtain ⟨z0, z1, z2, z3, z4, zf⟩ := row5' HFin.out
      by_cases hx : sx < 65535
      · have hdt : decide (sx < 65535) = true := decide_eq_true hx
        have hre : rs' = rs ++ [sr] := by rw [HRS.out, if_pos hx]
        have HRE := Lib.hid hre
        rw [hdt]
        clear hx hdt hre
        have hb3 := (Below.refl wn.heap.size wn).alloc (Nat.le_refl _) (.cells #[.int .u32 (sr.a : Int), .int .u8 (sr.n : Int), .int .i64 (sr.v : Int), .int .u16 (sr.m : Int), .int .u16 (sr.s : Int)] 40)
        obtain ⟨v5, w5, hrun, O5, G5⟩ := rapp_run (wn.alloc (.cells #[.int .u32 (sr.a : Int), .int .u8 (sr.n : Int), .int .i64 (sr.v : Int), .int .u16 (sr.m : Int), .int .u16 (sr.s : Int)] 40)) B (.slice Av rs.length cv) rs sr wn.heap.size (HT.out.2.1.kept hb3) (heap_alloc_new wn (.cells #[.int .u32 (sr.a : Int), .int .u8 (sr.n : Int), .int .i64 (sr.v : Int), .int .u16 (sr.m : Int), .int .u16 (sr.s : Int)] 40)) (by have := HH.out.2.2.2.2.2.2.2.2.2.2.1; omega) (Nat.le_trans HH.out.2.2.2.2.2.2.2.2.2.2.2 (Nat.le_trans HT.out.2.2.size hb3.size))
        obtain ⟨A5, c5, hv5, -, -⟩ := O5.form (fun _ => rfl)
        obtain ⟨n5, hn5⟩ : ∃ n5, n5 = (rs ++ [sr]).length := ⟨_, rfl⟩
        rw [← hn5] at hv5
        have hr5 : w5.heap[wb]? = some (.cells #[.slice Av rs.length cv] 37 (0, 0)) := (G5.block wb (Nat.lt_of_lt_of_le hwl hb3.size) (fun e => (HT.out.2.1.ne HT.out.1 (by decide)) e.symm)).trans (brow hb3 HT.out.1)
        subst hv5
        have HX := Lib.hid (And.intro O5 (And.intro G5 (And.intro hr5 (And.intro hb3 hn5))))
        have HRUN := Lib.hid hrun
        obtain ⟨e0, ef⟩ := row1 hr5
        have hwl5 : wb < w5.heap.size := (Array.getElem?_eq_some_iff.1 hr5).1
        clear O5 G5 hr5 hb3 hn5 hrun
        go_wp2_with (at_builtin; refine Lib.wpList_append_run _ rfl _ _ _ _ rfl _ _ rfl rfl _ _ HRUN.out ?_)
        refine bodyPost_end (v := .tuple #[]) (by simp [results, Tryz.results90, go_sem]) rfl ⟨rfl, .slice A5 n5 c5, heap_setCell_same w5 wb 0 _ 37 (.slice A5 n5 c5) HX.out.2.2.1, ?_, ?_⟩
        · rw [HRE.out]; exact gown_set HX.out.1 HX.out.2.2.1 (by decide) (.slice A5 n5 c5)
        · exact (((Fr.of HT.out.2.2).trans (Fr.of HX.out.2.2.2.1)).trans (Fr.grown HX.out.2.1 (fun k e => Or.inr e))).trans (Fr.grown (grown_setCell w5 wb 0 _) (fun k e => Or.inl (Option.some.inj e).symm))
      · have hdt : decide (sx < 65535) = false := decide_eq_false hx
        have hre : rs' = rs := by rw [HRS.out, if_neg hx, List.append_nil]
        have HRE := Lib.hid hre
        rw [hdt]
        clear hx hdt hre
        go_wp2
        exact bodyPost_end (v := .tuple #[]) (by simp [results, Tryz.results90, go_sem]) rfl ⟨rfl, .slice Av rs.length cv, HT.out.1, by rw [HRE.out]; exact HT.out.2.1, Fr.of HT.out.2.2⟩
    · go_simp
      have hB2 := (Below.refl wd.heap.size wd).alloc (Nat.le_refl _) (.cells #[.int .u32 0, .int .u8 0, .int .i64 0, .int .u16 0, .int .u16 0] 40)
      have hrow := heap_alloc_new wd (.cells #[.int .u32 0, .int .u8 0, .int .i64 0, .int .u16 0, .int .u16 0] 40)
      have HRB := Lib.hid hrow
      try replace HFB := Lib.hid (brow hB2 HFB.out)
      have hS2 := hHeld.trans (hB2.mono hHeld.size)
      have HRL := Lib.hid hHeld.size
      clear hB2 hrow
      generalize wd.heap.size = rb at *
      generalize wd.alloc _ = wn at *
      refine hK.out _ _ hS2 (fun hHeld2 => ?_)
      clear hK K hHeld hS2
      have hHeld := hHeld2
      clear hHeld2
      try simp only [Act.put, List.setIfInBounds_toArray, List.set_cons_zero, List.set_cons_succ]
      clear wd
      generalize wn = wd at *
      refine wpAnyH_ready (rs := [4]) (by kernel_rfl) (by simp) ?_
      refine (AllReadyH.cons (o := ⟨some 12, .call ⟨.value (.func 91), #[.tmp 8, .tmp 10, .tmp 11], #[149, 151, 104]⟩, 41, "routes.go:106", #[⟨0, .data⟩, ⟨2, .data⟩, ⟨3, .data⟩, ⟨2, .chain⟩], none⟩) rfl (fun K hK => ?_) AllReadyH.nil)
      go_simp
      with_reducible refine (short_any _ A n c G HH.out.1 HH.out.2.1.out (HH.out.2.2.1.below hHeld) HH.out.2.2.2.1 Ac nc cc cf (HH.out.2.2.2.2.2.2.2.1.below hHeld) ls qs cs fb f (HH.out.2.2.2.2.1.below hHeld) HFB.out).mono ?_
      rintro en wn ⟨rfl, hB2⟩
      try replace HRB := Lib.hid (brow hB2 HRB.out)
      have hS2 := hHeld.trans (hB2.mono hHeld.size)
      clear hB2 HFB
      rw [← HSH.out.1, ← HSH.out.2]
      refine hK.out _ _ hS2 (fun hHeld2 => ?_)
      clear hK K hHeld hS2
      have hHeld := hHeld2
      clear hHeld2
      try simp only [Act.put, List.setIfInBounds_toArray, List.set_cons_zero, List.set_cons_succ]
      clear wd
      generalize wn = wd at *
      refine wpAnyH_take (i := 5) (oi := ⟨some 7, .move (.tmp 12), 41, "routes.go:106", #[⟨4, .data⟩], none⟩) (v := .tuple #[.agg #[.int .u32 (sr.a : Int), .int .u8 (sr.n : Int), .int .i64 (sr.v : Int), .int .u16 (sr.m : Int), .int .u16 (sr.s : Int)], .bool (decide (sx < 65535))]) rfl (by kernel_rfl) (by kernel_rfl) (by kernel_rfl) (fun _ _ _ h => h) (Or.inl ⟨by rfl, fun w hSw => by go_simp⟩) (by assumption) ?_
      try simp only [Act.put, List.setIfInBounds_toArray, List.set_cons_zero, List.set_cons_succ]
      refine wpAnyH_take (i := 6) (oi := ⟨some 13, .extract (.tmp 7) 0, 40, "routes.go:106", #[⟨5, .data⟩], none⟩) (v := .agg #[.int .u32 (sr.a : Int), .int .u8 (sr.n : Int), .int .i64 (sr.v : Int), .int .u16 (sr.m : Int), .int .u16 (sr.s : Int)]) rfl (by kernel_rfl) (by kernel_rfl) (by kernel_rfl) (fun _ _ _ h => h) (Or.inl ⟨by rfl, fun w hSw => by go_simp⟩) (by assumption) ?_
      try simp only [Act.put, List.setIfInBounds_toArray, List.set_cons_zero, List.set_cons_succ]
      refine wpAnyH_take (i := 7) (oi := ⟨some 14, .extract (.tmp 7) 1, 4, "routes.go:106", #[⟨5, .data⟩, ⟨9, .gcOnly .lateStores⟩], none⟩) (v := .bool (decide (sx < 65535))) rfl (by kernel_rfl) (by kernel_rfl) (by kernel_rfl) (fun _ _ _ h => h) (Or.inl ⟨by rfl, fun w hSw => by go_simp⟩) (by assumption) ?_
      try simp only [Act.put, List.setIfInBounds_toArray, List.set_cons_zero, List.set_cons_succ]
      refine wpAnyH_ready (rs := [9]) (by kernel_rfl) (by simp) ?_
      refine (AllReadyH.cons (o := ⟨none, .store 40 (.tmp 5) (.tmp 13), 0, "routes.go:106", #[⟨8, .data⟩, ⟨6, .data⟩, ⟨4, .chain⟩, ⟨0, .phase⟩, ⟨1, .phase⟩, ⟨2, .phase⟩, ⟨3, .phase⟩, ⟨4, .phase⟩, ⟨5, .phase⟩, ⟨6, .phase⟩, ⟨7, .textOnly .lateStores⟩, ⟨8, .phase⟩], none⟩) rfl (fun K hK => ?_) AllReadyH.nil)
      obtain ⟨z0, z1, z2, z3, z4, zf⟩ := row5' HRB.out
      have hrl : rb < wd.heap.size := (Array.getElem?_eq_some_iff.1 HRB.out).1
      go_simp
      have HFin := Lib.hid (And.intro (set5 HRB.out (.int .u32 (sr.a : Int)) (.int .u8 (sr.n : Int)) (.int .i64 (sr.v : Int)) (.int .u16 (sr.m : Int)) (.int .u16 (sr.s : Int))) (grown5 wd rb (.int .u32 (sr.a : Int)) (.int .u8 (sr.n : Int)) (.int .i64 (sr.v : Int)) (.int .u16 (sr.m : Int)) (.int .u16 (sr.s : Int))))
      have hS2 := hHeld.grown HFin.out.2 hHeld.size (fun k e => by have := Option.some.inj e; subst this; exact HRL.out)
      clear z0 z1 z2 z3 z4 zf hrl
      generalize ((((wd.setCell _ _).setCell _ _).setCell _ _).setCell _ _).setCell _ _ = wn at *
      refine hK.out _ _ hS2 (fun hHeld2 => ?_)
      clear hK K hHeld hS2
      have hHeld := hHeld2
      clear hHeld2
      try simp only [Act.put, List.setIfInBounds_toArray, List.set_cons_zero, List.set_cons_succ]
      refine wpAnyH_take (i := 10) (oi := ⟨some 6, .assign (.tmp 14), 4, "routes.go:106", #[⟨7, .data⟩, ⟨9, .chain⟩, ⟨0, .phase⟩, ⟨1, .phase⟩, ⟨2, .phase⟩, ⟨3, .phase⟩, ⟨4, .phase⟩, ⟨5, .phase⟩, ⟨6, .phase⟩, ⟨7, .phase⟩, ⟨8, .phase⟩, ⟨9, .phase⟩], none⟩) (v := .bool (decide (sx < 65535))) rfl (by kernel_rfl) (by kernel_rfl) (by kernel_rfl) (fun _ _ _ h => h) (Or.inl ⟨by rfl, fun w hSw => by go_simp⟩) (by assumption) ?_
      try simp only [Act.put, List.setIfInBounds_toArray, List.set_cons_zero, List.set_cons_succ]
      refine wpAnyH_done (by kernel_rfl) ?_ _
      try unfold NoPanic
      replace HFin := Lib.hid HFin.out.1
      have HT := Lib.hid (And.intro (brow hHeld HH.out.2.2.2.2.2.2.2.2.1) (And.intro (HH.out.2.2.2.2.2.2.2.2.2.1.kept hHeld) hHeld))
      clear hHeld
      obtain ⟨b0, bf⟩ := row1 HT.out.1
      have hwl : wb < wn.heap.size := (Array.getElem?_eq_some_iff.1 HT.out.1).1
      have hrbl : rb < wn.heap.size := (Array.getElem?_eq_some_iff.1 HFin.out).1
      obtain ⟨z0, z1, z2, z3, z4, zf⟩ := row5' HFin.out
      by_cases hx : sx < 65535
      · have hdt : decide (sx < 65535) = true := decide_eq_true hx
        have hre : rs' = rs ++ [sr] := by rw [HRS.out, if_pos hx]
        have HRE := Lib.hid hre
        rw [hdt]
        clear hx hdt hre
        have hb3 := (Below.refl wn.heap.size wn).alloc (Nat.le_refl _) (.cells #[.int .u32 (sr.a : Int), .int .u8 (sr.n : Int), .int .i64 (sr.v : Int), .int .u16 (sr.m : Int), .int .u16 (sr.s : Int)] 40)
        obtain ⟨v5, w5, hrun, O5, G5⟩ := rapp_run (wn.alloc (.cells #[.int .u32 (sr.a : Int), .int .u8 (sr.n : Int), .int .i64 (sr.v : Int), .int .u16 (sr.m : Int), .int .u16 (sr.s : Int)] 40)) B (.slice Av rs.length cv) rs sr wn.heap.size (HT.out.2.1.kept hb3) (heap_alloc_new wn (.cells #[.int .u32 (sr.a : Int), .int .u8 (sr.n : Int), .int .i64 (sr.v : Int), .int .u16 (sr.m : Int), .int .u16 (sr.s : Int)] 40)) (by have := HH.out.2.2.2.2.2.2.2.2.2.2.1; omega) (Nat.le_trans HH.out.2.2.2.2.2.2.2.2.2.2.2 (Nat.le_trans HT.out.2.2.size hb3.size))
        obtain ⟨A5, c5, hv5, -, -⟩ := O5.form (fun _ => rfl)
        obtain ⟨n5, hn5⟩ : ∃ n5, n5 = (rs ++ [sr]).length := ⟨_, rfl⟩
        rw [← hn5] at hv5
        have hr5 : w5.heap[wb]? = some (.cells #[.slice Av rs.length cv] 37 (0, 0)) := (G5.block wb (Nat.lt_of_lt_of_le hwl hb3.size) (fun e => (HT.out.2.1.ne HT.out.1 (by decide)) e.symm)).trans (brow hb3 HT.out.1)
        subst hv5
        have HX := Lib.hid (And.intro O5 (And.intro G5 (And.intro hr5 (And.intro hb3 hn5))))
        have HRUN := Lib.hid hrun
        obtain ⟨e0, ef⟩ := row1 hr5
        have hwl5 : wb < w5.heap.size := (Array.getElem?_eq_some_iff.1 hr5).1
        clear O5 G5 hr5 hb3 hn5 hrun
        go_wp2_with (at_builtin; refine Lib.wpList_append_run _ rfl _ _ _ _ rfl _ _ rfl rfl _ _ HRUN.out ?_)
        refine bodyPost_end (v := .tuple #[]) (by simp [results, Tryz.results90, go_sem]) rfl ⟨rfl, .slice A5 n5 c5, heap_setCell_same w5 wb 0 _ 37 (.slice A5 n5 c5) HX.out.2.2.1, ?_, ?_⟩
        · rw [HRE.out]; exact gown_set HX.out.1 HX.out.2.2.1 (by decide) (.slice A5 n5 c5)
        · exact (((Fr.of HT.out.2.2).trans (Fr.of HX.out.2.2.2.1)).trans (Fr.grown HX.out.2.1 (fun k e => Or.inr e))).trans (Fr.grown (grown_setCell w5 wb 0 _) (fun k e => Or.inl (Option.some.inj e).symm))
      · have hdt : decide (sx < 65535) = false := decide_eq_false hx
        have hre : rs' = rs := by rw [HRS.out, if_neg hx, List.append_nil]
        have HRE := Lib.hid hre
        rw [hdt]
        clear hx hdt hre
        go_wp2
        exact bodyPost_end (v := .tuple #[]) (by simp [results, Tryz.results90, go_sem]) rfl ⟨rfl, .slice Av rs.length cv, HT.out.1, by rw [HRE.out]; exact HT.out.2.1, Fr.of HT.out.2.2⟩
  · go_simp
    have hB2 := (Below.refl wd.heap.size wd).alloc (Nat.le_refl _) (.cells #[.int .u32 0, .int .u8 0, .int .i64 0, .int .u16 0, .int .u16 0] 40)
    have hrow := heap_alloc_new wd (.cells #[.int .u32 0, .int .u8 0, .int .i64 0, .int .u16 0, .int .u16 0] 40)
    have HRB := Lib.hid hrow
    try replace HFB := Lib.hid (brow hB2 HFB.out)
    have hS2 := hHeld.trans (hB2.mono hHeld.size)
    have HRL := Lib.hid hHeld.size
    clear hB2 hrow
    generalize wd.heap.size = rb at *
    generalize wd.alloc _ = wn at *
    refine hK.out _ _ hS2 (fun hHeld2 => ?_)
    clear hK K hHeld hS2
    have hHeld := hHeld2
    clear hHeld2
    try simp only [Act.put, List.setIfInBounds_toArray, List.set_cons_zero, List.set_cons_succ]
    clear wd
    generalize wn = wd at *
    refine wpAnyH_ready (rs := [2]) (by kernel_rfl) (by simp) ?_
    refine (AllReadyH.cons (o := ⟨some 10, .call ⟨.value (.func 92), #[.tmp 9], #[89]⟩, 151, "routes.go:106", #[⟨1, .data⟩], none⟩) rfl (fun K hK => ?_) AllReadyH.nil)
    go_simp
    with_reducible refine (feasible_any _ qs).mono ?_
    rintro en wn ⟨rfl, hwn⟩
    have hB2 := (Below.refl wd.heap.size wd).alloc (Nat.le_refl _) (.cells #[.pointer (some ⟨qs, 0, none⟩)] 89)
    have hrow := heap_alloc_new wd (.cells #[.pointer (some ⟨qs, 0, none⟩)] 89)
    rw [← hwn] at hB2 hrow
    have HFB := Lib.hid hrow
    try replace HRB := Lib.hid (brow hB2 HRB.out)
    have hS2 := hHeld.trans (hB2.mono hHeld.size)
    clear hwn hB2 hrow
    refine hK.out _ _ hS2 (fun hHeld2 => ?_)
    clear hK K hHeld hS2
    have hHeld := hHeld2
    clear hHeld2
    try simp only [Act.put, List.setIfInBounds_toArray, List.set_cons_zero, List.set_cons_succ]
    generalize wd.heap.size = fb at *
    clear wd
    generalize wn = wd at *
    refine wpAnyH_ready (rs := [4]) (by kernel_rfl) (by simp) ?_
    refine (AllReadyH.cons (o := ⟨some 12, .call ⟨.value (.func 91), #[.tmp 8, .tmp 10, .tmp 11], #[149, 151, 104]⟩, 41, "routes.go:106", #[⟨0, .data⟩, ⟨2, .data⟩, ⟨3, .data⟩, ⟨2, .chain⟩], none⟩) rfl (fun K hK => ?_) AllReadyH.nil)
    go_simp
    with_reducible refine (short_any _ A n c G HH.out.1 HH.out.2.1.out (HH.out.2.2.1.below hHeld) HH.out.2.2.2.1 Ac nc cc cf (HH.out.2.2.2.2.2.2.2.1.below hHeld) ls qs cs fb f (HH.out.2.2.2.2.1.below hHeld) HFB.out).mono ?_
    rintro en wn ⟨rfl, hB2⟩
    try replace HRB := Lib.hid (brow hB2 HRB.out)
    have hS2 := hHeld.trans (hB2.mono hHeld.size)
    clear hB2 HFB
    rw [← HSH.out.1, ← HSH.out.2]
    refine hK.out _ _ hS2 (fun hHeld2 => ?_)
    clear hK K hHeld hS2
    have hHeld := hHeld2
    clear hHeld2
    try simp only [Act.put, List.setIfInBounds_toArray, List.set_cons_zero, List.set_cons_succ]
    clear wd
    generalize wn = wd at *
    refine wpAnyH_take (i := 5) (oi := ⟨some 7, .move (.tmp 12), 41, "routes.go:106", #[⟨4, .data⟩], none⟩) (v := .tuple #[.agg #[.int .u32 (sr.a : Int), .int .u8 (sr.n : Int), .int .i64 (sr.v : Int), .int .u16 (sr.m : Int), .int .u16 (sr.s : Int)], .bool (decide (sx < 65535))]) rfl (by kernel_rfl) (by kernel_rfl) (by kernel_rfl) (fun _ _ _ h => h) (Or.inl ⟨by rfl, fun w hSw => by go_simp⟩) (by assumption) ?_
    try simp only [Act.put, List.setIfInBounds_toArray, List.set_cons_zero, List.set_cons_succ]
    refine wpAnyH_take (i := 6) (oi := ⟨some 13, .extract (.tmp 7) 0, 40, "routes.go:106", #[⟨5, .data⟩], none⟩) (v := .agg #[.int .u32 (sr.a : Int), .int .u8 (sr.n : Int), .int .i64 (sr.v : Int), .int .u16 (sr.m : Int), .int .u16 (sr.s : Int)]) rfl (by kernel_rfl) (by kernel_rfl) (by kernel_rfl) (fun _ _ _ h => h) (Or.inl ⟨by rfl, fun w hSw => by go_simp⟩) (by assumption) ?_
    try simp only [Act.put, List.setIfInBounds_toArray, List.set_cons_zero, List.set_cons_succ]
    refine wpAnyH_take (i := 7) (oi := ⟨some 14, .extract (.tmp 7) 1, 4, "routes.go:106", #[⟨5, .data⟩, ⟨9, .gcOnly .lateStores⟩], none⟩) (v := .bool (decide (sx < 65535))) rfl (by kernel_rfl) (by kernel_rfl) (by kernel_rfl) (fun _ _ _ h => h) (Or.inl ⟨by rfl, fun w hSw => by go_simp⟩) (by assumption) ?_
    try simp only [Act.put, List.setIfInBounds_toArray, List.set_cons_zero, List.set_cons_succ]
    refine wpAnyH_ready (rs := [9]) (by kernel_rfl) (by simp) ?_
    refine (AllReadyH.cons (o := ⟨none, .store 40 (.tmp 5) (.tmp 13), 0, "routes.go:106", #[⟨8, .data⟩, ⟨6, .data⟩, ⟨4, .chain⟩, ⟨0, .phase⟩, ⟨1, .phase⟩, ⟨2, .phase⟩, ⟨3, .phase⟩, ⟨4, .phase⟩, ⟨5, .phase⟩, ⟨6, .phase⟩, ⟨7, .textOnly .lateStores⟩, ⟨8, .phase⟩], none⟩) rfl (fun K hK => ?_) AllReadyH.nil)
    obtain ⟨z0, z1, z2, z3, z4, zf⟩ := row5' HRB.out
    have hrl : rb < wd.heap.size := (Array.getElem?_eq_some_iff.1 HRB.out).1
    go_simp
    have HFin := Lib.hid (And.intro (set5 HRB.out (.int .u32 (sr.a : Int)) (.int .u8 (sr.n : Int)) (.int .i64 (sr.v : Int)) (.int .u16 (sr.m : Int)) (.int .u16 (sr.s : Int))) (grown5 wd rb (.int .u32 (sr.a : Int)) (.int .u8 (sr.n : Int)) (.int .i64 (sr.v : Int)) (.int .u16 (sr.m : Int)) (.int .u16 (sr.s : Int))))
    have hS2 := hHeld.grown HFin.out.2 hHeld.size (fun k e => by have := Option.some.inj e; subst this; exact HRL.out)
    clear z0 z1 z2 z3 z4 zf hrl
    generalize ((((wd.setCell _ _).setCell _ _).setCell _ _).setCell _ _).setCell _ _ = wn at *
    refine hK.out _ _ hS2 (fun hHeld2 => ?_)
    clear hK K hHeld hS2
    have hHeld := hHeld2
    clear hHeld2
    try simp only [Act.put, List.setIfInBounds_toArray, List.set_cons_zero, List.set_cons_succ]
    refine wpAnyH_take (i := 10) (oi := ⟨some 6, .assign (.tmp 14), 4, "routes.go:106", #[⟨7, .data⟩, ⟨9, .chain⟩, ⟨0, .phase⟩, ⟨1, .phase⟩, ⟨2, .phase⟩, ⟨3, .phase⟩, ⟨4, .phase⟩, ⟨5, .phase⟩, ⟨6, .phase⟩, ⟨7, .phase⟩, ⟨8, .phase⟩, ⟨9, .phase⟩], none⟩) (v := .bool (decide (sx < 65535))) rfl (by kernel_rfl) (by kernel_rfl) (by kernel_rfl) (fun _ _ _ h => h) (Or.inl ⟨by rfl, fun w hSw => by go_simp⟩) (by assumption) ?_
    try simp only [Act.put, List.setIfInBounds_toArray, List.set_cons_zero, List.set_cons_succ]
    refine wpAnyH_done (by kernel_rfl) ?_ _
    try unfold NoPanic
    replace HFin := Lib.hid HFin.out.1
    have HT := Lib.hid (And.intro (brow hHeld HH.out.2.2.2.2.2.2.2.2.1) (And.intro (HH.out.2.2.2.2.2.2.2.2.2.1.kept hHeld) hHeld))
    clear hHeld
    obtain ⟨b0, bf⟩ := row1 HT.out.1
    have hwl : wb < wn.heap.size := (Array.getElem?_eq_some_iff.1 HT.out.1).1
    have hrbl : rb < wn.heap.size := (Array.getElem?_eq_some_iff.1 HFin.out).1
    obtain ⟨z0, z1, z2, z3, z4, zf⟩ := row5' HFin.out
    by_cases hx : sx < 65535
    · have hdt : decide (sx < 65535) = true := decide_eq_true hx
      have hre : rs' = rs ++ [sr] := by rw [HRS.out, if_pos hx]
      have HRE := Lib.hid hre
      rw [hdt]
      clear hx hdt hre
      have hb3 := (Below.refl wn.heap.size wn).alloc (Nat.le_refl _) (.cells #[.int .u32 (sr.a : Int), .int .u8 (sr.n : Int), .int .i64 (sr.v : Int), .int .u16 (sr.m : Int), .int .u16 (sr.s : Int)] 40)
      obtain ⟨v5, w5, hrun, O5, G5⟩ := rapp_run (wn.alloc (.cells #[.int .u32 (sr.a : Int), .int .u8 (sr.n : Int), .int .i64 (sr.v : Int), .int .u16 (sr.m : Int), .int .u16 (sr.s : Int)] 40)) B (.slice Av rs.length cv) rs sr wn.heap.size (HT.out.2.1.kept hb3) (heap_alloc_new wn (.cells #[.int .u32 (sr.a : Int), .int .u8 (sr.n : Int), .int .i64 (sr.v : Int), .int .u16 (sr.m : Int), .int .u16 (sr.s : Int)] 40)) (by have := HH.out.2.2.2.2.2.2.2.2.2.2.1; omega) (Nat.le_trans HH.out.2.2.2.2.2.2.2.2.2.2.2 (Nat.le_trans HT.out.2.2.size hb3.size))
      obtain ⟨A5, c5, hv5, -, -⟩ := O5.form (fun _ => rfl)
      obtain ⟨n5, hn5⟩ : ∃ n5, n5 = (rs ++ [sr]).length := ⟨_, rfl⟩
      rw [← hn5] at hv5
      have hr5 : w5.heap[wb]? = some (.cells #[.slice Av rs.length cv] 37 (0, 0)) := (G5.block wb (Nat.lt_of_lt_of_le hwl hb3.size) (fun e => (HT.out.2.1.ne HT.out.1 (by decide)) e.symm)).trans (brow hb3 HT.out.1)
      subst hv5
      have HX := Lib.hid (And.intro O5 (And.intro G5 (And.intro hr5 (And.intro hb3 hn5))))
      have HRUN := Lib.hid hrun
      obtain ⟨e0, ef⟩ := row1 hr5
      have hwl5 : wb < w5.heap.size := (Array.getElem?_eq_some_iff.1 hr5).1
      clear O5 G5 hr5 hb3 hn5 hrun
      go_wp2_with (at_builtin; refine Lib.wpList_append_run _ rfl _ _ _ _ rfl _ _ rfl rfl _ _ HRUN.out ?_)
      refine bodyPost_end (v := .tuple #[]) (by simp [results, Tryz.results90, go_sem]) rfl ⟨rfl, .slice A5 n5 c5, heap_setCell_same w5 wb 0 _ 37 (.slice A5 n5 c5) HX.out.2.2.1, ?_, ?_⟩
      · rw [HRE.out]; exact gown_set HX.out.1 HX.out.2.2.1 (by decide) (.slice A5 n5 c5)
      · exact (((Fr.of HT.out.2.2).trans (Fr.of HX.out.2.2.2.1)).trans (Fr.grown HX.out.2.1 (fun k e => Or.inr e))).trans (Fr.grown (grown_setCell w5 wb 0 _) (fun k e => Or.inl (Option.some.inj e).symm))
    · have hdt : decide (sx < 65535) = false := decide_eq_false hx
      have hre : rs' = rs := by rw [HRS.out, if_neg hx, List.append_nil]
      have HRE := Lib.hid hre
      rw [hdt]
      clear hx hdt hre
      go_wp2
      exact bodyPost_end (v := .tuple #[]) (by simp [results, Tryz.results90, go_sem]) rfl ⟨rfl, .slice Av rs.length cv, HT.out.1, by rw [HRE.out]; exact HT.out.2.1, Fr.of HT.out.2.2⟩
end Go.Proofs.YtjbogjbopgcbhaaGreatDoor.Rts
namespace Go.Proofs.YtjbogjbopgcbhaaGreatDoor.Rts
open Pre Ser
open Go.Proofs.YtjbogjbopgcbhaaGreatDoor.Src (row1 row2)
open Go.ChangeShapes Go.WideShapes Go.ChangeAt Go.RowKit
set_option maxRecDepth 8000
set_option linter.unusedVariables false
open Go.Proofs.YtjbogjbopgcbhaaGreatDoor.Src (Mk SrcAt)
theorem Fr.cell3 {w : World} (x y z : Obj) : ((w.alloc x).alloc y).alloc z = ((w.alloc x).alloc y).alloc z ∧ (((w.alloc x).alloc y).alloc z).heap[w.heap.size]? = some x ∧ (((w.alloc x).alloc y).alloc z).heap[w.heap.size + 1]? = some y ∧ (((w.alloc x).alloc y).alloc z).heap[w.heap.size + 2]? = some z ∧ Below w.heap.size w (((w.alloc x).alloc y).alloc z) := by
  have e1 : (w.alloc x).heap.size = w.heap.size + 1 := by simp
  have e2 : ((w.alloc x).alloc y).heap.size = w.heap.size + 2 := by simp
  refine ⟨rfl, ?_, ?_, ?_, (((Below.refl w.heap.size w).alloc (Nat.le_refl _) x).alloc (by simp) y).alloc (by simp; omega) z⟩
  · exact (heap_alloc_old _ _ (by rw [e2]; omega)).trans ((heap_alloc_old _ _ (by rw [e1]; omega)).trans (heap_alloc_new w x))
  · have := heap_alloc_new (w.alloc x) y
    rw [e1] at this
    exact (heap_alloc_old _ _ (by rw [e2]; omega)).trans this
  · have := heap_alloc_new ((w.alloc x).alloc y) z
    rw [e2] at this
    exact this
structure SelI (w : World) (qs : Nat) (Ac : Option Addr) (nc cc : Nat) (cf : Nat → Nat) (f : Mk) (L : List E) (k : Nat) (W : World) : Prop where
  b : Below w.heap.size w W
  r0 : W.heap[w.heap.size]? = some (.cells #[.pointer (some ⟨qs, 0, none⟩)] 89 (0, 0))
  r1 : W.heap[w.heap.size + 1]? = some (.cells #[.slice Ac nc cc] 104 (0, 0))
  l : ∃ vv rs, W.heap[w.heap.size + 2]? = some (.cells #[vv] 37 (0, 0)) ∧ GOwn 40 5 Ro.cl W w.heap.size vv rs ∧ SelOK cf f (L.take k) rs ∧ rs.length ≤ k
theorem SelI.step {w W W' : World} {qs : Nat} {Ac : Option Addr} {nc cc : Nat} {cf : Nat → Nat} {f : Mk} {L : List E} {k : Nat} (h : SelI w qs Ac nc cc cf f L k W) (B : Below W.heap.size W W') : SelI w qs Ac nc cc cf f L k W' := by
  obtain ⟨vv, rs, h1, h2, h3⟩ := h.l
  exact ⟨h.b.trans (B.mono h.b.size), brow B h.r0, brow B h.r1, vv, rs, brow B h1, h2.kept B, h3⟩
theorem esl_sub {W : World} {gb cp lo : Nat} {L : List E} (h : EOwn W lo (.slice (some ⟨gb, 0, none⟩) L.length cp) L) {i j : Nat} (hij : i ≤ j) (hj : j ≤ L.length) : ESl W (some ⟨gb, i * 7, none⟩) ((L.drop i).take (j - i)) := fun k hk => by
  rw [List.length_take, List.length_drop] at hk
  have hk2 : i + k < L.length := by omega
  obtain ⟨hE, -, hl⟩ := h.at_ hk2
  refine ⟨gb, i * 7, rfl, hl, ?_⟩
  rw [List.getElem_take, List.getElem_drop, show i * 7 + k * 7 = (i + k) * 7 by omega]
  exact hE
theorem sel_grp {w : World} {lo q : Nat} {v : Value} {L : List E} {ls qs cs : Nat} {f : Mk} {Ac : Option Addr} {nc cc : Nat} {cf : Nat → Nat} (h : RtsAt lo w q L v) (hr : Rising L) (hL : ∀ e ∈ L, e.Ok) (hlen : L.length ≤ 900) (hs : SrcAt ls w qs f cs) (hco : CostAt w Ac nc cf)
    (i j : Nat) (W : World) (gb cp : Nat) (hv : v = .slice (some ⟨gb, 0, none⟩) L.length cp) (hI : SelI w qs Ac nc cc cf f L i W) (g : Grp L i j) :
    Calls Tryz.prog 90 #[.slice (some ⟨gb, i * 7, none⟩) (j - i) (cp - i), .pointer (some ⟨w.heap.size, 0, none⟩), .pointer (some ⟨w.heap.size + 1, 0, none⟩), .pointer (some ⟨w.heap.size + 2, 0, none⟩)] W fun en w' => en = .returned (.tuple #[]) ∧ SelI w qs Ac nc cc cf f L j w' := by
  obtain ⟨vv, rs, h1, h2, h3, h4⟩ := hI.l
  have hij := g.lt
  have hjl := g.le
  have hrW := h.kept hI.b
  have hG : ∀ e ∈ (L.drop i).take (j - i), e.Ok := fun e he => hL e (List.mem_of_mem_drop (List.mem_of_mem_take he))
  have c := sel1_any W (some ⟨gb, i * 7, none⟩) (j - i) (cp - i) ((L.drop i).take (j - i)) Ac nc cc cf ls qs cs w.heap.size (w.heap.size + 1) (w.heap.size + 2) w.heap.size f vv rs (by rw [List.length_take, List.length_drop]; omega) (Lib.hid (by omega)) (esl_sub (hv ▸ hrW.own) (by omega) hjl) hG (hs.below hI.b) hI.r0 hI.r1 (hco.below hI.b) h1 h2 (by omega) hI.b.size
  refine c.mono fun en w' ⟨e1, vv', k1, k2, F⟩ => ⟨e1, ?_, ?_, ?_, vv', _, k1, k2, h3.grp g hr hL, ?_⟩
  · refine hI.b.trans (Fr.below F hI.b.size (fun k hk => ?_))
    rcases hk with rfl | hk
    · omega
    · exact (h2.lt hk).1
  · exact F.row hI.r0 (fun hk => by
      rcases hk with hk | hk
      · omega
      · exact h2.ne hI.r0 (by decide) hk)
  · exact F.row hI.r1 (fun hk => by
      rcases hk with hk | hk
      · omega
      · exact h2.ne hI.r1 (by decide) hk)
  · rw [List.length_append]
    split <;> simp <;> omega
set_option maxHeartbeats 2000000 in
theorem select_any (w : World) (lo q : Nat) (v : Value) (L : List E) (h : RtsAt lo w q L v) (hr : Rising L) (hL : ∀ e ∈ L, e.Ok) (hlen : L.length ≤ 900) (ls qs cs : Nat) (f : Mk) (hs : SrcAt ls w qs f cs) (Ac : Option Addr) (nc cc : Nat) (cf : Nat → Nat) (hco : CostAt w Ac nc cf) :
    Calls Tryz.prog 46 #[.pointer (some ⟨q, 0, none⟩), .pointer (some ⟨qs, 0, none⟩), .slice Ac nc cc] w fun en w' => ∃ vv rs, en = .returned vv ∧ SelOK cf f L rs ∧ GOwn 40 5 Ro.cl w' w.heap.size vv rs ∧ Below w.heap.size w w' ∧ rs.length ≤ L.length := by
  obtain ⟨-, r0, r1, r2, B3⟩ := Fr.cell3 (w := w) (.cells #[.pointer (some ⟨qs, 0, none⟩)] 89) (.cells #[.slice Ac nc cc] 104) (.cells #[.slice none 0 0] 37)
  have hI0 : SelI w qs Ac nc cc cf f L 0 (((w.alloc (.cells #[.pointer (some ⟨qs, 0, none⟩)] 89)).alloc (.cells #[.slice Ac nc cc] 104)).alloc (.cells #[.slice none 0 0] 37)) := ⟨B3, r0, r1, .slice none 0 0, [], r2, GOwn.nil _ _ _ _ _, SelOK.nil cf f, Nat.le_refl _⟩
  have c33 := each_any (((w.alloc (.cells #[.pointer (some ⟨qs, 0, none⟩)] 89)).alloc (.cells #[.slice Ac nc cc] 104)).alloc (.cells #[.slice none 0 0] 37)) lo q v L (by omega) 90 #[.pointer (some ⟨w.heap.size, 0, none⟩), .pointer (some ⟨w.heap.size + 1, 0, none⟩), .pointer (some ⟨w.heap.size + 2, 0, none⟩)] (enters_of Tryz.func90 (by kernel_rfl) rfl) (SelI w qs Ac nc cc cf f L) hI0 (fun k W W' hI B => hI.step B) (fun k W hI => h.kept hI.b) (fun i j W gb cp hv hI g => by
    have := sel_grp h hr hL hlen hs hco i j W gb cp hv hI g
    simpa using this)
  have HC := Lib.hid c33
  clear c33 r0 r1 r2 B3 hI0 h hr hL hlen hs hco
  go_enter Tryz.func46, Tryz.ntmps46
  go_upto_region 3 with (go_at_call 89; (with_reducible refine HC.out.mono ?_); rintro en w5 ⟨rfl, hI⟩; have HI := Lib.hid hI; clear hI)
  obtain ⟨vv, rs, h1, h2, h3, h4⟩ := HI.out.l
  obtain ⟨A5, c5, hv5, -, -⟩ := h2.form (fun _ => rfl)
  obtain ⟨n5, hn5⟩ : ∃ n5, n5 = rs.length := ⟨_, rfl⟩
  rw [← hn5] at hv5
  subst hv5
  obtain ⟨b0, -⟩ := row1 h1
  rw [List.take_length] at h3
  have HZ := Lib.hid (And.intro h3 (And.intro h2 (And.intro HI.out.b h4)))
  clear h1 h2 h3 h4 hn5
  go_wp2
  go_ret
  exact ⟨_, rs, rfl, HZ.out⟩
end Go.Proofs.YtjbogjbopgcbhaaGreatDoor.Rts
namespace Go.Proofs.YtjbogjbopgcbhaaGreatDoor.Rts
open Pre Ser
open Go.Proofs.YtjbogjbopgcbhaaGreatDoor.Src (row1 row2)
open Go.ChangeShapes Go.WideShapes Go.ChangeAt Go.RowKit
set_option maxRecDepth 8000
set_option linter.unusedVariables false
open Go.Proofs.YtjbogjbopgcbhaaGreatDoor.Src (Mk SrcAt)
def clP (p : Nat × Nat) : List Value := [.int .u32 (p.1 : Int), .int .u8 (p.2 : Int)]
theorem info39 : (Tryz.prog.info? 30).map (fun i => (i.zero, i.size, i.bytes)) = some (some (.agg #[.int .u32 0, .int .u8 0]), 2, 8) := by kernel_rfl
theorem p_one (x : Nat × Nat) : ∀ u ∈ clP x, u.oneCell' = true := by
  intro u hu
  simp [clP] at hu
  rcases hu with rfl | rfl <;> rfl
theorem p_at {w : World} {b : Nat} {x : Nat × Nat} (h : w.heap[b]? = some (.cells #[.int .u32 (x.1 : Int), .int .u8 (x.2 : Int)] 30 (0, 0))) : ∀ j u, (clP x)[j]? = some u → w.cell? ((⟨b, 0, none⟩ : Addr).add j) = some u := fun j u hj => by
  rw [Addr.add_lit, Nat.zero_add, cell_of_row _ _ j _ 30 (0, 0) h, ← hj]
  have : (#[.int .u32 (x.1 : Int), .int .u8 (x.2 : Int)] : Array Value) = (clP x).toArray := rfl
  rw [this]
  simp
theorem papp_run (w : World) (B : Nat) (v : Value) (l : List (Nat × Nat)) (x : Nat × Nat) (b : Nat) (hown : GOwn 30 2 clP w B v l) (hc : w.heap[b]? = some (.cells #[.int .u32 (x.1 : Int), .int .u8 (x.2 : Int)] 30 (0, 0))) (hlen : l.length ≤ 1000) (hB : B ≤ w.heap.size) :
    ∃ v' w', (Builtin.append_ #[64, 64] 64 #[v, .slice (some ⟨b, 0, none⟩) 1 1]).run Tryz.prog w = .ok v' w' ∧ GOwn 30 2 clP w' B v' (l ++ [x]) ∧ w.grownBy w' v.ownBlock := by
  obtain ⟨i0, hi0, hz0, hz1, hz2⟩ := info_parts info39
  exact gapp_run Tryz.underlying64 hi0 hz0 hz1 hz2 rfl (by decide) (fun _ => rfl) p_one (by decide) w B v l x b hown (p_at hc) hlen hB
def blk (f : Mk) (M : List E) (a n : Nat) : Bool := !(M.filter (ofp a n)).isEmpty && !(M.filter (ofp a n)).any (feasE f)
def ppk (p : Nat × Nat) : Nat := p.1 * 256 + p.2
structure BlkOK (f : Mk) (M : List E) (bs : List (Nat × Nat)) : Prop where
  up : bs.Pairwise fun x y => ppk x < ppk y
  mem : ∀ p, p ∈ bs ↔ blk f M p.1 p.2 = true
theorem BlkOK.nil (f : Mk) : BlkOK f [] [] := ⟨List.Pairwise.nil, fun p => by simp [blk]⟩
theorem BlkOK.grp {f : Mk} {L : List E} {i j : Nat} {bs : List (Nat × Nat)} (h : BlkOK f (L.take i) bs) (g : Grp L i j) (hr : Rising L) (hL : ∀ e ∈ L, e.Ok) :
    BlkOK f (L.take j) (bs ++ if ((L.drop i).take (j - i)).any (feasE f) then [] else [((L[i]'(Nat.lt_of_lt_of_le g.lt g.le)).a, (L[i]'(Nat.lt_of_lt_of_le g.lt g.le)).n)]) := by
  have hil : i < L.length := Nat.lt_of_lt_of_le g.lt g.le
  have hne : ((L.drop i).take (j - i)).isEmpty = false := by
    rw [List.isEmpty_eq_false_iff]
    intro e
    have := congrArg List.length e
    rw [List.length_take, List.length_drop] at this
    have h1 := g.lt; have h2 := g.le
    simp at this
    omega
  have hz : ∀ a n, ofp a n L[i] = true → (L.take i).filter (ofp a n) = [] := fun a n hp => List.filter_eq_nil_iff.2 fun e he => by
    have hp2 := of_decide_eq_true hp
    obtain ⟨k, hk, rfl⟩ := List.getElem_of_mem he
    rw [List.length_take] at hk
    rw [List.getElem_take]
    obtain ⟨hkl, hlt⟩ := g.ahead hr hL (show k < i by omega)
    intro h2
    have h2 := of_decide_eq_true h2
    unfold E.pk at hlt
    rw [h2.1, h2.2, hp2.1, hp2.2] at hlt
    omega
  have hah : ∀ p ∈ bs, ppk p < L[i].pk := fun p hp => by
    have hm := (h.mem p).1 hp
    unfold blk at hm
    rw [Bool.and_eq_true] at hm
    have hne : (L.take i).filter (ofp p.1 p.2) ≠ [] := fun e => by rw [e] at hm; simp at hm
    obtain ⟨e, he⟩ := List.exists_mem_of_ne_nil _ hne
    obtain ⟨he1, he2⟩ := List.mem_filter.1 he
    obtain ⟨k, hk, rfl⟩ := List.getElem_of_mem he1
    rw [List.length_take] at hk
    rw [List.getElem_take] at he2
    obtain ⟨hkl, hlt⟩ := g.ahead hr hL (show k < i by omega)
    have h2 := of_decide_eq_true he2
    unfold E.pk at hlt ⊢
    unfold ppk
    rw [← h2.1, ← h2.2]; exact hlt
  refine ⟨?_, fun p => ?_⟩
  · rw [List.pairwise_append]
    refine ⟨h.up, ?_, fun x hx y hy => ?_⟩
    · split
      · exact List.Pairwise.nil
      · exact List.pairwise_singleton _ _
    · split at hy
      · simp at hy
      · rw [List.mem_singleton] at hy
        subst hy
        exact hah x hx
  · rw [List.mem_append, h.mem p]
    have hf := g.filter hr hL p.1 p.2
    unfold blk
    rw [hf]
    by_cases hp : ofp p.1 p.2 L[i] = true
    · rw [if_pos hp, hz _ _ hp, hne]
      have hp2 := of_decide_eq_true hp
      cases ((L.drop i).take (j - i)).any (feasE f) with
      | true => simp
      | false =>
        have : p = (L[i].a, L[i].n) := by
          obtain ⟨p1, p2⟩ := p
          simp only at hp2
          rw [hp2.1, hp2.2]
        simp [this]
    · rw [if_neg hp]
      constructor
      · rintro (h | h)
        · exact h
        · exfalso
          split at h
          · simp at h
          · rw [List.mem_singleton] at h
            subst h
            exact hp (decide_eq_true ⟨rfl, rfl⟩)
      · exact Or.inl
theorem idx_ge {p : E → Bool} {L : List E} : decide (0 ≤ idxV p L) = L.any p := by
  unfold idxV
  cases h : L.any p with
  | true => rw [if_pos rfl]; exact decide_eq_true (by omega)
  | false => rw [if_neg (by simp)]; rfl
theorem contains_any (w : World) (A : Option Addr) (n c : Nat) (G : List E) (hn : n = G.length) (hlen : n ≤ 1000) (hsl : ESl w A G) (hG : ∀ e ∈ G, e.Ok) (ls qs cs sb : Nat) (f : Mk) (hs : SrcAt ls w qs f cs) (hb : w.heap[sb]? = some (.cells #[.pointer (some ⟨qs, 0, none⟩)] 89 (0, 0))) :
    Calls Tryz.prog 148 #[.slice A n c, .func (.func 131) #[] #[.pointer (some ⟨sb, 0, none⟩)]] w fun en w' => en = .returned (.bool (G.any (feasE f))) ∧ Below w.heap.size w w' := by
  have c60 := idxf_any w A n c G hn hlen hsl hG (feasE f) 131 sb (enters_of Tryz.func131 (by kernel_rfl) rfl) (fun W e B he => feasp_any W ls qs cs sb f (hs.below B) (brow B hb) e he)
  have hge := idx_ge (p := feasE f) (L := G)
  obtain ⟨z, hz⟩ : ∃ z, z = idxV (feasE f) G := ⟨_, rfl⟩
  rw [← hz] at c60 hge
  have HC := Lib.hid (And.intro c60 hge)
  clear c60 hge hz hn hsl hG hs hb
  go_enter Tryz.func148, Tryz.ntmps148
  go_wp2_with (go_at_call 165; (with_reducible refine HC.out.1.mono ?_); rintro en w3 ⟨rfl, B3⟩; have H3 := Lib.hid B3; clear B3)
  go_ret
  exact ⟨by rw [← HC.out.2]; rfl, H3.out⟩
end Go.Proofs.YtjbogjbopgcbhaaGreatDoor.Rts
namespace Go.Proofs.YtjbogjbopgcbhaaGreatDoor.Rts
open Pre Ser
open Go.Proofs.YtjbogjbopgcbhaaGreatDoor.Src (row1 row2)
open Go.ChangeShapes Go.WideShapes Go.ChangeAt Go.RowKit
set_option maxRecDepth 8000
set_option linter.unusedVariables false
open Go.Proofs.YtjbogjbopgcbhaaGreatDoor.Src (Mk SrcAt)
def Blk1Said (w : World) (B wb : Nat) (vv : Value) (bs' : List (Nat × Nat)) (e : Ending) (w' : World) : Prop :=
  e = .returned (.tuple #[]) ∧ ∃ vv', w'.heap[wb]? = some (.cells #[vv'] 64 (0, 0)) ∧ GOwn 30 2 clP w' B vv' bs' ∧ Fr (fun k => k = wb ∨ vv.ownBlock = some k) w w'
set_option maxHeartbeats 8000000 in
theorem blk1_any (w : World) (g0 o0 : Nat) (n c : Nat) (G : List E) (ls qs cs t1 wb B : Nat) (f : Mk) (vv : Value) (bs : List (Nat × Nat)) (hn : n = G.length) (hlen : Hid (n ≤ 1000)) (hn0 : 0 < n) (hsl : ESl w (some ⟨g0, o0, none⟩) G) (hG : ∀ e ∈ G, e.Ok) (hs : SrcAt ls w qs f cs) (hb1 : w.heap[t1]? = some (.cells #[.pointer (some ⟨qs, 0, none⟩)] 89 (0, 0))) (hwb : w.heap[wb]? = some (.cells #[vv] 64 (0, 0))) (hown : GOwn 30 2 clP w B vv bs) (HGN0 : Hid (¬ (g0 = wb ∨ vv.ownBlock = some g0))) (hrl : bs.length ≤ 900) (hB : B ≤ w.heap.size) :
    Calls Tryz.prog 147 #[.slice (some ⟨g0, o0, none⟩) n c, .pointer (some ⟨t1, 0, none⟩), .pointer (some ⟨wb, 0, none⟩)] w (Blk1Said w B wb vv (bs ++ if G.any (feasE f) then [] else [((G[0]'(hn ▸ hn0)).a, (G[0]'(hn ▸ hn0)).n)])) := by
  obtain ⟨Av, cv, hvv, -, -⟩ := hown.form (fun _ => rfl)
  subst hvv
  obtain ⟨a, ha⟩ : ∃ a, a = (G[0]'(hn ▸ hn0)).a := ⟨_, rfl⟩
  obtain ⟨m, hm⟩ : ∃ m, m = (G[0]'(hn ▸ hn0)).n := ⟨_, rfl⟩
  obtain ⟨fa, hfa⟩ : ∃ fa, fa = G.any (feasE f) := ⟨_, rfl⟩
  rw [← ha, ← hm, ← hfa]
  obtain ⟨bs', hbs'⟩ : ∃ bs', bs' = bs ++ if fa = true then [] else [(a, m)] := ⟨_, rfl⟩
  rw [← hbs']
  have HRS := Lib.hid hbs'
  obtain ⟨b', o', eA, hgl, hE⟩ := hsl 0 (hn ▸ hn0)
  injection eA with eA; injection eA with e1 e2 _
  subst e1 e2
  rw [Nat.zero_mul, Nat.add_zero] at hE
  have HE : Hid (w.cell? ⟨g0, o0, none⟩ = some (.int .u32 (a : Int)) ∧ w.cell? ⟨g0, o0 + 1, none⟩ = some (.int .u8 (m : Int))) := Lib.hid (by rw [ha, hm]; exact ⟨hE.k0, hE.k1⟩)
  have HH := Lib.hid (And.intro hn (And.intro hlen (And.intro hsl (And.intro hG (And.intro hs (And.intro hb1 (And.intro hwb (And.intro hown (And.intro hrl (And.intro hB hfa))))))))))
  obtain ⟨s0, -⟩ := row1 hb1
  have ht1 := (Array.getElem?_eq_some_iff.1 hb1).1
  have hn0' : (0 : Int) < (n : Int) := by omega
  clear hbs' hn hlen hsl hG hs hb1 hwb hown hrl hB hE ha hm hfa
  have hb2 := (Below.refl w.heap.size w).alloc (Nat.le_refl _) (.cells #[.pointer (some ⟨qs, 0, none⟩)] 89)
  have H40 := Lib.hid (contains_any _ (some ⟨g0, o0, none⟩) n c G HH.out.1 HH.out.2.1.out (HH.out.2.2.1.below hb2) HH.out.2.2.2.1 ls qs cs w.heap.size f (HH.out.2.2.2.2.1.below hb2) (heap_alloc_new w (.cells #[.pointer (some ⟨qs, 0, none⟩)] 89)))
  have HB2 := Lib.hid hb2
  rw [← HH.out.2.2.2.2.2.2.2.2.2.2] at H40
  clear hb2
  have HNW : Hid (∀ wn, Below w.heap.size w wn → wn.heap[wb]? = some (.cells #[.slice Av bs.length cv] 64 (0, 0)) ∧ GOwn 30 2 clP wn B (.slice Av bs.length cv) bs) := Lib.hid fun wn hb => ⟨brow hb HH.out.2.2.2.2.2.2.1, HH.out.2.2.2.2.2.2.2.1.kept hb⟩
  cases fa with
  | true =>
    have hre : bs' = bs := by rw [HRS.out, if_pos rfl, List.append_nil]
    have HRE := Lib.hid hre
    clear hre
    go_enter Tryz.func147, Tryz.ntmps147
    go_wp2_with (first
      | (go_at_call 92; (with_reducible refine (feasible_any _ qs).mono ?_); rintro en w2 ⟨rfl, rfl⟩)
      | (go_at_call 148; (with_reducible refine H40.out.mono ?_); rintro en w3 ⟨rfl, B3⟩; have H3 := Lib.hid (HB2.out.trans (B3.mono HB2.out.size)); clear B3))
    exact bodyPost_end (v := .tuple #[]) (by simp [results, Tryz.results147, go_sem]) rfl ⟨rfl, .slice Av bs.length cv, (HNW.out _ H3.out).1, by rw [HRE.out]; exact (HNW.out _ H3.out).2, Fr.of H3.out⟩
  | false =>
    have hre : bs' = bs ++ [(a, m)] := by rw [HRS.out, if_neg (by simp)]
    have HRE := Lib.hid hre
    clear hre
    go_enter Tryz.func147, Tryz.ntmps147
    go_upto_region 1 with (first
      | (go_at_call 92; (with_reducible refine (feasible_any _ qs).mono ?_); rintro en w2 ⟨rfl, rfl⟩)
      | (go_at_call 148; (with_reducible refine H40.out.mono ?_); rintro en w3 ⟨rfl, B3⟩; have H3 := Lib.hid (HB2.out.trans (B3.mono HB2.out.size)); clear B3))
    have H4 := Lib.hid ((H3.out).trans ((Below.refl w3.heap.size w3).drew.mono H3.out.size))
    have HGN : Hid (¬ (g0 = wb ∨ (Value.slice Av bs.length cv).ownBlock = some g0)) := HGN0
    have HCU := H4
    clear H4
    refine wp_region_noPanic ?_
    refine wp_region_held_drew (S := fun y : World => Fr (fun k => k = wb ∨ (Value.slice Av bs.length cv).ownBlock = some k) w y) (by kernel_rfl) ((Fr.of H3.out).trans (Fr.of ((Below.refl _ _).drew))) (fun hHeld => ?_)
    generalize w3.drew = wd at *
    refine wpAnyH_take (i := 1) (oi := ⟨some 10, .move (.tmp 0), 149, "routes.go:118", #[], none⟩) (v := .slice (some ⟨g0, o0, none⟩) n c) rfl (by kernel_rfl) (by kernel_rfl) (by kernel_rfl) (fun _ _ _ h => h) (Or.inl ⟨by rfl, fun w hSw => by go_simp⟩) (by assumption) ?_
    try simp only [Act.put, List.setIfInBounds_toArray, List.set_cons_zero, List.set_cons_succ]
    refine wpAnyH_take (i := 2) (oi := ⟨some 11, .indexAddr 149 (.tmp 10) (.const (.int .i64 0)), 0, "routes.go:118", #[⟨1, .data⟩], none⟩) (v := .pointer (some ⟨g0, o0, none⟩)) rfl (by kernel_rfl) (by kernel_rfl) (by kernel_rfl) (fun _ _ _ h => h) (Or.inl ⟨by rfl, fun w hSw => by go_simp⟩) (by assumption) ?_
    try simp only [Act.put, List.setIfInBounds_toArray, List.set_cons_zero, List.set_cons_succ]
    refine wpAnyH_take (i := 3) (oi := ⟨some 12, .fieldAddr 173 (.tmp 11) 0, 0, "routes.go:118", #[⟨2, .data⟩], none⟩) (v := .pointer (some ⟨g0, o0, none⟩)) rfl (by kernel_rfl) (by kernel_rfl) (by kernel_rfl) (fun _ _ _ h => h) (Or.inl ⟨by rfl, fun w hSw => by go_simp⟩) (by assumption) ?_
    try simp only [Act.put, List.setIfInBounds_toArray, List.set_cons_zero, List.set_cons_succ]
    refine wpAnyH_take (i := 4) (oi := ⟨some 13, .load 30 (.tmp 12), 30, "routes.go:118", #[⟨3, .data⟩], none⟩) (v := .agg #[.int .u32 (a : Int), .int .u8 (m : Int)]) rfl (by kernel_rfl) (by kernel_rfl) (by kernel_rfl) (fun _ _ _ h => h) (Or.inl ⟨by rfl, fun w hSw => by obtain ⟨c0, c1⟩ := HE.out; have hbk := hSw.block g0 hgl HGN.out; rw [← World.cell?_of_block (a := ⟨g0, _, none⟩) hbk] at c0 c1; go_simp⟩) (by assumption) ?_
    try simp only [Act.put, List.setIfInBounds_toArray, List.set_cons_zero, List.set_cons_succ]
    refine wpAnyH_ready (rs := [0, 5]) (by kernel_rfl) (by simp) ?_
    refine (AllReadyH.cons (o := ⟨some 9, .load 64 (.tmp 2), 64, "routes.go:118", #[], none⟩) rfl (fun K hK => ?_) (AllReadyH.cons (o := ⟨some 14, .buildSlice 64 1 #[(0, .tmp 13)], 64, "routes.go:118", #[⟨4, .data⟩], none⟩) rfl (fun K hK => ?_) AllReadyH.nil))
    · obtain ⟨b0, -⟩ := row1 (HNW.out _ HCU.out).1
      go_simp
      have hS2 := hHeld
      refine hK.out _ _ hS2 (fun hHeld2 => ?_)
      clear hK K hHeld hS2
      have hHeld := hHeld2
      clear hHeld2
      try simp only [Act.put, List.setIfInBounds_toArray, List.set_cons_zero, List.set_cons_succ]
      clear b0
      refine wpAnyH_ready (rs := [5]) (by kernel_rfl) (by simp) ?_
      refine (AllReadyH.cons (o := ⟨some 14, .buildSlice 64 1 #[(0, .tmp 13)], 64, "routes.go:118", #[⟨4, .data⟩], none⟩) rfl (fun K hK => ?_) AllReadyH.nil)
      go_simp
      have hB3 := (Below.refl wd.heap.size wd).alloc (Nat.le_refl _) (.cells #[.int .u32 (a : Int), .int .u8 (m : Int)] 30)
      have hrow := heap_alloc_new wd (.cells #[.int .u32 (a : Int), .int .u8 (m : Int)] 30)
      have HRB := Lib.hid hrow
      have hS2 := hHeld.step hB3
      have HCU2 := Lib.hid (HCU.out.trans (hB3.mono HCU.out.size))
      clear hB3 hrow HCU
      have HCU := HCU2
      clear HCU2
      generalize wd.heap.size = rb at *
      generalize wd.alloc _ = wn at *
      refine hK.out _ _ hS2 (fun hHeld2 => ?_)
      clear hK K hHeld hS2
      have hHeld := hHeld2
      clear hHeld2
      try simp only [Act.put, List.setIfInBounds_toArray, List.set_cons_zero, List.set_cons_succ]
      clear wd
      generalize wn = wd at *
      refine wpAnyH_ready (rs := [6]) (by kernel_rfl) (by simp) ?_
      refine (AllReadyH.cons (o := ⟨some 15, .call ⟨.builtin .append, #[.tmp 9, .tmp 14], #[64, 64]⟩, 64, "routes.go:118", #[⟨0, .data⟩, ⟨5, .data⟩], none⟩) rfl (fun K hK => ?_) AllReadyH.nil)
      obtain ⟨v5, w5, hrun, O5, G5⟩ := papp_run wd B (.slice Av bs.length cv) bs (a, m) rb (HNW.out _ HCU.out).2 HRB.out (by have := HH.out.2.2.2.2.2.2.2.2.1; omega) (Nat.le_trans HH.out.2.2.2.2.2.2.2.2.2.1 HCU.out.size)
      refine Lib.wp_append_run _ (.tmp 9) (.tmp 14) 64 64 rfl _ _ rfl rfl _ _ hrun ?_
      obtain ⟨A5, c5, hv5, -, -⟩ := O5.form (fun _ => rfl)
      obtain ⟨n5, hn5⟩ : ∃ n5, n5 = (bs ++ [(a, m)]).length := ⟨_, rfl⟩
      rw [← hn5] at hv5
      have hr5 : w5.heap[wb]? = some (.cells #[.slice Av bs.length cv] 64 (0, 0)) := (G5.block wb (Array.getElem?_eq_some_iff.1 (HNW.out _ HCU.out).1).1 (fun e => ((HNW.out _ HCU.out).2.ne (HNW.out _ HCU.out).1 (by decide)) e.symm)).trans (HNW.out _ HCU.out).1
      subst hv5
      have hS2 := hHeld.trans (Fr.grown (X := fun k => k = wb ∨ (Value.slice Av bs.length cv).ownBlock = some k) G5 (fun k e => Or.inr e))
      have HX := Lib.hid (And.intro O5 hr5)
      clear O5 G5 hr5 hn5 hrun
      refine hK.out _ _ hS2 (fun hHeld2 => ?_)
      clear hK K hHeld hS2
      have hHeld := hHeld2
      clear hHeld2
      try simp only [Act.put, List.setIfInBounds_toArray, List.set_cons_zero, List.set_cons_succ]
      refine wpAnyH_ready (rs := [7]) (by kernel_rfl) (by simp) ?_
      refine (AllReadyH.cons (o := ⟨none, .store 64 (.tmp 2) (.tmp 15), 0, "routes.go:118", #[⟨6, .data⟩, ⟨6, .chain⟩, ⟨0, .phase⟩, ⟨1, .phase⟩, ⟨2, .phase⟩, ⟨3, .phase⟩, ⟨4, .phase⟩, ⟨5, .phase⟩, ⟨6, .phase⟩], none⟩) rfl (fun K hK => ?_) AllReadyH.nil)
      obtain ⟨e0, ef⟩ := row1 HX.out.2
      have hwl5 : wb < w5.heap.size := (Array.getElem?_eq_some_iff.1 HX.out.2).1
      go_simp
      have hS2 := hHeld.trans (Fr.grown (X := fun k => k = wb ∨ (Value.slice Av bs.length cv).ownBlock = some k) (grown_setCell w5 wb 0 (.slice A5 n5 c5)) (fun k e => Or.inl (Option.some.inj e).symm))
      have HY := Lib.hid (And.intro (heap_setCell_same w5 wb 0 _ 64 (.slice A5 n5 c5) HX.out.2) (gown_set HX.out.1 HX.out.2 (by decide) (.slice A5 n5 c5)))
      clear e0 ef hwl5
      generalize w5.setCell _ _ = w6 at *
      refine hK.out _ _ hS2 (fun hHeld2 => ?_)
      clear hK K hHeld hS2
      have hHeld := hHeld2
      clear hHeld2
      try simp only [Act.put, List.setIfInBounds_toArray, List.set_cons_zero, List.set_cons_succ]
      refine wpAnyH_done (by kernel_rfl) ?_ _
      try unfold NoPanic
      go_wp2
      exact bodyPost_end (v := .tuple #[]) (by simp [results, Tryz.results147, go_sem]) rfl ⟨rfl, .slice A5 n5 c5, HY.out.1, by rw [HRE.out]; exact HY.out.2, hHeld⟩
    · go_simp
      have hB3 := (Below.refl wd.heap.size wd).alloc (Nat.le_refl _) (.cells #[.int .u32 (a : Int), .int .u8 (m : Int)] 30)
      have hrow := heap_alloc_new wd (.cells #[.int .u32 (a : Int), .int .u8 (m : Int)] 30)
      have HRB := Lib.hid hrow
      have hS2 := hHeld.step hB3
      have HCU2 := Lib.hid (HCU.out.trans (hB3.mono HCU.out.size))
      clear hB3 hrow HCU
      have HCU := HCU2
      clear HCU2
      generalize wd.heap.size = rb at *
      generalize wd.alloc _ = wn at *
      refine hK.out _ _ hS2 (fun hHeld2 => ?_)
      clear hK K hHeld hS2
      have hHeld := hHeld2
      clear hHeld2
      try simp only [Act.put, List.setIfInBounds_toArray, List.set_cons_zero, List.set_cons_succ]
      clear wd
      generalize wn = wd at *
      refine wpAnyH_ready (rs := [0]) (by kernel_rfl) (by simp) ?_
      refine (AllReadyH.cons (o := ⟨some 9, .load 64 (.tmp 2), 64, "routes.go:118", #[], none⟩) rfl (fun K hK => ?_) AllReadyH.nil)
      obtain ⟨b0, -⟩ := row1 (HNW.out _ HCU.out).1
      go_simp
      have hS2 := hHeld
      refine hK.out _ _ hS2 (fun hHeld2 => ?_)
      clear hK K hHeld hS2
      have hHeld := hHeld2
      clear hHeld2
      try simp only [Act.put, List.setIfInBounds_toArray, List.set_cons_zero, List.set_cons_succ]
      clear b0
      refine wpAnyH_ready (rs := [6]) (by kernel_rfl) (by simp) ?_
      refine (AllReadyH.cons (o := ⟨some 15, .call ⟨.builtin .append, #[.tmp 9, .tmp 14], #[64, 64]⟩, 64, "routes.go:118", #[⟨0, .data⟩, ⟨5, .data⟩], none⟩) rfl (fun K hK => ?_) AllReadyH.nil)
      obtain ⟨v5, w5, hrun, O5, G5⟩ := papp_run wd B (.slice Av bs.length cv) bs (a, m) rb (HNW.out _ HCU.out).2 HRB.out (by have := HH.out.2.2.2.2.2.2.2.2.1; omega) (Nat.le_trans HH.out.2.2.2.2.2.2.2.2.2.1 HCU.out.size)
      refine Lib.wp_append_run _ (.tmp 9) (.tmp 14) 64 64 rfl _ _ rfl rfl _ _ hrun ?_
      obtain ⟨A5, c5, hv5, -, -⟩ := O5.form (fun _ => rfl)
      obtain ⟨n5, hn5⟩ : ∃ n5, n5 = (bs ++ [(a, m)]).length := ⟨_, rfl⟩
      rw [← hn5] at hv5
      have hr5 : w5.heap[wb]? = some (.cells #[.slice Av bs.length cv] 64 (0, 0)) := (G5.block wb (Array.getElem?_eq_some_iff.1 (HNW.out _ HCU.out).1).1 (fun e => ((HNW.out _ HCU.out).2.ne (HNW.out _ HCU.out).1 (by decide)) e.symm)).trans (HNW.out _ HCU.out).1
      subst hv5
      have hS2 := hHeld.trans (Fr.grown (X := fun k => k = wb ∨ (Value.slice Av bs.length cv).ownBlock = some k) G5 (fun k e => Or.inr e))
      have HX := Lib.hid (And.intro O5 hr5)
      clear O5 G5 hr5 hn5 hrun
      refine hK.out _ _ hS2 (fun hHeld2 => ?_)
      clear hK K hHeld hS2
      have hHeld := hHeld2
      clear hHeld2
      try simp only [Act.put, List.setIfInBounds_toArray, List.set_cons_zero, List.set_cons_succ]
      refine wpAnyH_ready (rs := [7]) (by kernel_rfl) (by simp) ?_
      refine (AllReadyH.cons (o := ⟨none, .store 64 (.tmp 2) (.tmp 15), 0, "routes.go:118", #[⟨6, .data⟩, ⟨6, .chain⟩, ⟨0, .phase⟩, ⟨1, .phase⟩, ⟨2, .phase⟩, ⟨3, .phase⟩, ⟨4, .phase⟩, ⟨5, .phase⟩, ⟨6, .phase⟩], none⟩) rfl (fun K hK => ?_) AllReadyH.nil)
      obtain ⟨e0, ef⟩ := row1 HX.out.2
      have hwl5 : wb < w5.heap.size := (Array.getElem?_eq_some_iff.1 HX.out.2).1
      go_simp
      have hS2 := hHeld.trans (Fr.grown (X := fun k => k = wb ∨ (Value.slice Av bs.length cv).ownBlock = some k) (grown_setCell w5 wb 0 (.slice A5 n5 c5)) (fun k e => Or.inl (Option.some.inj e).symm))
      have HY := Lib.hid (And.intro (heap_setCell_same w5 wb 0 _ 64 (.slice A5 n5 c5) HX.out.2) (gown_set HX.out.1 HX.out.2 (by decide) (.slice A5 n5 c5)))
      clear e0 ef hwl5
      generalize w5.setCell _ _ = w6 at *
      refine hK.out _ _ hS2 (fun hHeld2 => ?_)
      clear hK K hHeld hS2
      have hHeld := hHeld2
      clear hHeld2
      try simp only [Act.put, List.setIfInBounds_toArray, List.set_cons_zero, List.set_cons_succ]
      refine wpAnyH_done (by kernel_rfl) ?_ _
      try unfold NoPanic
      go_wp2
      exact bodyPost_end (v := .tuple #[]) (by simp [results, Tryz.results147, go_sem]) rfl ⟨rfl, .slice A5 n5 c5, HY.out.1, by rw [HRE.out]; exact HY.out.2, hHeld⟩
structure BlkI (w : World) (qs : Nat) (f : Mk) (L : List E) (k : Nat) (W : World) : Prop where
  b : Below w.heap.size w W
  r0 : W.heap[w.heap.size]? = some (.cells #[.pointer (some ⟨qs, 0, none⟩)] 89 (0, 0))
  l : ∃ vv bs, W.heap[w.heap.size + 1]? = some (.cells #[vv] 64 (0, 0)) ∧ GOwn 30 2 clP W w.heap.size vv bs ∧ BlkOK f (L.take k) bs ∧ bs.length ≤ k
theorem BlkI.step {w W W' : World} {qs : Nat} {f : Mk} {L : List E} {k : Nat} (h : BlkI w qs f L k W) (B : Below W.heap.size W W') : BlkI w qs f L k W' := by
  obtain ⟨vv, bs, h1, h2, h3⟩ := h.l
  exact ⟨h.b.trans (B.mono h.b.size), brow B h.r0, vv, bs, brow B h1, h2.kept B, h3⟩
theorem blk_grp {w : World} {lo q : Nat} {v : Value} {L : List E} {ls qs cs : Nat} {f : Mk} (h : RtsAt lo w q L v) (hr : Rising L) (hL : ∀ e ∈ L, e.Ok) (hlen : L.length ≤ 900) (hs : SrcAt ls w qs f cs)
    (i j : Nat) (W : World) (gb cp : Nat) (hv : v = .slice (some ⟨gb, 0, none⟩) L.length cp) (hI : BlkI w qs f L i W) (g : Grp L i j) :
    Calls Tryz.prog 147 #[.slice (some ⟨gb, i * 7, none⟩) (j - i) (cp - i), .pointer (some ⟨w.heap.size, 0, none⟩), .pointer (some ⟨w.heap.size + 1, 0, none⟩)] W fun en w' => en = .returned (.tuple #[]) ∧ BlkI w qs f L j w' := by
  obtain ⟨vv, bs, h1, h2, h3, h4⟩ := hI.l
  have hij := g.lt
  have hjl := g.le
  have hrW := h.kept hI.b
  have hG : ∀ e ∈ (L.drop i).take (j - i), e.Ok := fun e he => hL e (List.mem_of_mem_drop (List.mem_of_mem_take he))
  have hgl : gb < w.heap.size := (own_lt h.own (by rw [hv]; rfl)).2
  have c := blk1_any W gb (i * 7) (j - i) (cp - i) ((L.drop i).take (j - i)) ls qs cs w.heap.size (w.heap.size + 1) w.heap.size f vv bs (by rw [List.length_take, List.length_drop]; omega) (Lib.hid (by omega)) (by omega) (esl_sub (hv ▸ hrW.own) (by omega) hjl) hG (hs.below hI.b) hI.r0 h1 h2 (Lib.hid (fun e => by
    rcases e with e | e
    · omega
    · have := (h2.lt e).1; omega)) (by omega) hI.b.size
  have e0 : ((L.drop i).take (j - i))[0]'(by rw [List.length_take, List.length_drop]; omega) = L[i]'(Nat.lt_of_lt_of_le g.lt g.le) := by
    rw [List.getElem_take, List.getElem_drop]; rfl
  rw [e0] at c
  refine c.mono fun en w' ⟨e1, vv', k1, k2, F⟩ => ⟨e1, ?_, ?_, vv', _, k1, k2, h3.grp g hr hL, ?_⟩
  · refine hI.b.trans (Fr.below F hI.b.size (fun k hk => ?_))
    rcases hk with rfl | hk
    · omega
    · exact (h2.lt hk).1
  · exact F.row hI.r0 (fun hk => by
      rcases hk with hk | hk
      · omega
      · exact h2.ne hI.r0 (by decide) hk)
  · rw [List.length_append]
    split <;> simp <;> omega
set_option maxHeartbeats 2000000 in
theorem blocked_any (w : World) (lo q : Nat) (v : Value) (L : List E) (h : RtsAt lo w q L v) (hr : Rising L) (hL : ∀ e ∈ L, e.Ok) (hlen : L.length ≤ 900) (ls qs cs : Nat) (f : Mk) (hs : SrcAt ls w qs f cs) :
    Calls Tryz.prog 102 #[.pointer (some ⟨q, 0, none⟩), .pointer (some ⟨qs, 0, none⟩)] w fun en w' => ∃ vv bs, en = .returned vv ∧ BlkOK f L bs ∧ GOwn 30 2 clP w' w.heap.size vv bs ∧ Below w.heap.size w w' ∧ bs.length ≤ L.length := by
  have B2 := ((Below.refl w.heap.size w).alloc (Nat.le_refl _) (.cells #[.pointer (some ⟨qs, 0, none⟩)] 89)).alloc (by simp) (.cells #[.slice none 0 0] 64)
  have r0 : ((w.alloc (.cells #[.pointer (some ⟨qs, 0, none⟩)] 89)).alloc (.cells #[.slice none 0 0] 64)).heap[w.heap.size]? = some (.cells #[.pointer (some ⟨qs, 0, none⟩)] 89 (0, 0)) := (heap_alloc_old _ (.cells #[.slice none 0 0] 64) (by simp)).trans (heap_alloc_new w (.cells #[.pointer (some ⟨qs, 0, none⟩)] 89))
  have r1 := Src.heap_new1 w (.cells #[.pointer (some ⟨qs, 0, none⟩)] 89) (.cells #[.slice none 0 0] 64)
  have hI0 : BlkI w qs f L 0 ((w.alloc (.cells #[.pointer (some ⟨qs, 0, none⟩)] 89)).alloc (.cells #[.slice none 0 0] 64)) := ⟨B2, r0, .slice none 0 0, [], r1, GOwn.nil _ _ _ _ _, BlkOK.nil f, Nat.le_refl _⟩
  have c33 := each_any ((w.alloc (.cells #[.pointer (some ⟨qs, 0, none⟩)] 89)).alloc (.cells #[.slice none 0 0] 64)) lo q v L (by omega) 147 #[.pointer (some ⟨w.heap.size, 0, none⟩), .pointer (some ⟨w.heap.size + 1, 0, none⟩)] (enters_of Tryz.func147 (by kernel_rfl) rfl) (BlkI w qs f L) hI0 (fun k W W' hI B => hI.step B) (fun k W hI => h.kept hI.b) (fun i j W gb cp hv hI g => by
    have := blk_grp h hr hL hlen hs i j W gb cp hv hI g
    simpa using this)
  have HC := Lib.hid c33
  clear c33 r0 r1 B2 hI0 h hr hL hlen hs
  go_enter Tryz.func102, Tryz.ntmps102
  go_upto_region 3 with (go_at_call 89; (with_reducible refine HC.out.mono ?_); rintro en w5 ⟨rfl, hI⟩; have HI := Lib.hid hI; clear hI)
  obtain ⟨vv, bs, h1, h2, h3, h4⟩ := HI.out.l
  obtain ⟨A5, c5, hv5, -, -⟩ := h2.form (fun _ => rfl)
  obtain ⟨n5, hn5⟩ : ∃ n5, n5 = bs.length := ⟨_, rfl⟩
  rw [← hn5] at hv5
  subst hv5
  obtain ⟨b0, -⟩ := row1 h1
  rw [List.take_length] at h3
  have HZ := Lib.hid (And.intro h3 (And.intro h2 (And.intro HI.out.b h4)))
  clear h1 h2 h3 h4 hn5
  go_wp2
  go_ret
  exact ⟨_, bs, rfl, HZ.out⟩
end Go.Proofs.YtjbogjbopgcbhaaGreatDoor.Rts
