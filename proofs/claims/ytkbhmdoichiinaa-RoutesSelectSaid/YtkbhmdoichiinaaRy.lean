/- What is done with the ways of a prefix. -/
import Derived.Test.YtkbhmdoichiinaaRx
namespace Go.Proofs.Ytkbhmdoichiinaa.Rts
open Pre Ser
open Go.Proofs.Ytkbhmdoichiinaa.Src (row1 row2)
open Go.ChangeShapes Go.WideShapes Go.ChangeAt Go.RowKit
set_option maxRecDepth 8000
set_option linter.unusedVariables false

open Go.Proofs.Ytkbhmdoichiinaa.Src (Mk SrcAt)
theorem info53 : (Try.prog.info? 53).map (fun i => (i.zero, i.size, i.bytes)) = some (some (.agg #[.int .u32 0, .int .u8 0, .int .i64 0, .int .u16 0, .int .u16 0]), 5, 24) := by kernel_rfl
theorem ro_one (x : Ro) : ∀ u ∈ x.cl, u.oneCell' = true := by
  intro u hu
  simp [Ro.cl] at hu
  rcases hu with rfl | rfl | rfl | rfl | rfl <;> rfl
theorem ro_at {w : World} {b : Nat} {r : Ro} (h : w.heap[b]? = some (.cells #[.int .u32 (r.a : Int), .int .u8 (r.n : Int), .int .i64 (r.v : Int), .int .u16 (r.m : Int), .int .u16 (r.s : Int)] 53 (0, 0))) : ∀ j u, (Ro.cl r)[j]? = some u → w.cell? ((⟨b, 0, none⟩ : Addr).add j) = some u := fun j u hj => by
  rw [Addr.add_lit, Nat.zero_add, cell_of_row _ _ j _ 53 (0, 0) h, ← hj]
  have : (#[.int .u32 (r.a : Int), .int .u8 (r.n : Int), .int .i64 (r.v : Int), .int .u16 (r.m : Int), .int .u16 (r.s : Int)] : Array Value) = (Ro.cl r).toArray := rfl
  rw [this]
  simp
theorem rapp_run (w : World) (B : Nat) (v : Value) (l : List Ro) (x : Ro) (b : Nat) (hown : GOwn 53 5 Ro.cl w B v l) (hc : w.heap[b]? = some (.cells #[.int .u32 (x.a : Int), .int .u8 (x.n : Int), .int .i64 (x.v : Int), .int .u16 (x.m : Int), .int .u16 (x.s : Int)] 53 (0, 0))) (hlen : l.length ≤ 1000) (hB : B ≤ w.heap.size) :
    ∃ v' w', (Builtin.append_ #[48, 48] 48 #[v, .slice (some ⟨b, 0, none⟩) 1 1]).run Try.prog w = .ok v' w' ∧ GOwn 53 5 Ro.cl w' B v' (l ++ [x]) ∧ w.grownBy w' v.ownBlock := by
  obtain ⟨i0, hi0, hz0, hz1, hz2⟩ := info_parts info53
  exact gapp_run Try.underlying48 hi0 hz0 hz1 hz2 rfl (by decide) (fun _ => rfl) ro_one (by decide) w B v l x b hown (ro_at hc) hlen hB
theorem gown_set {α : Type} {t : TypeId} {k : Nat} {cl : α → List Value} {w : World} {B : Nat} {v : Value} {l : List α} (h : GOwn t k cl w B v l) {b : Nat} {x : Array Value} {u : TypeId} (hr : w.heap[b]? = some (.cells x u (0, 0))) (hu : u ≠ t) (y : Value) : GOwn t k cl (w.setCell ⟨b, 0, none⟩ y) B v l :=
  World.ownsRow.kept (row := some b) h (grown_setCell w b 0 y) (Or.inr (h.ne hr hu))
/-- A row is kept that is neither the box of the list nor the list's own. -/
def Sel1Said (w : World) (B wb : Nat) (vv : Value) (rs' : List Ro) (e : Ending) (w' : World) : Prop :=
  e = .returned (.tuple #[]) ∧ ∃ vv', w'.heap[wb]? = some (.cells #[vv'] 48 (0, 0)) ∧ GOwn 53 5 Ro.cl w' B vv' rs' ∧ Fr (fun k => k = wb ∨ vv.ownBlock = some k) w w'
set_option maxHeartbeats 8000000 in
theorem sel1_any (w : World) (A : Option Addr) (n c : Nat) (G : List E) (Ac : Option Addr) (nc cc : Nat) (cf : Nat → Nat) (ls qs cs t1 t2 wb B : Nat) (f : Mk) (vv : Value) (rs : List Ro) (hn : n = G.length) (hlen : Hid (n ≤ 1000)) (hsl : ESl w A G) (hG : ∀ e ∈ G, e.Ok) (hs : SrcAt ls w qs f cs) (hb1 : w.heap[t1]? = some (.cells #[.pointer (some ⟨qs, 0, none⟩)] 46 (0, 0))) (hb2 : w.heap[t2]? = some (.cells #[.slice Ac nc cc] 50 (0, 0))) (hco : CostAt w Ac nc cf) (hwb : w.heap[wb]? = some (.cells #[vv] 48 (0, 0))) (hown : GOwn 53 5 Ro.cl w B vv rs) (hrl : rs.length ≤ 900) (hB : B ≤ w.heap.size) :
    Calls Try.prog 34 #[.slice A n c, .pointer (some ⟨t1, 0, none⟩), .pointer (some ⟨t2, 0, none⟩), .pointer (some ⟨wb, 0, none⟩)] w (Sel1Said w B wb vv (rs ++ if (short cf f G).1 < 65535 then [(short cf f G).2] else [])) := by
  obtain ⟨Av, cv, hvv, -, -⟩ := hown.form (fun _ => rfl)
  subst hvv
  obtain ⟨sx, hsx⟩ : ∃ sx, sx = (short cf f G).1 := ⟨_, rfl⟩
  obtain ⟨sr, hsr⟩ : ∃ sr, sr = (short cf f G).2 := ⟨_, rfl⟩
  have HSH := Lib.hid (And.intro hsr hsx)
  rw [← hsx, ← hsr]
  obtain ⟨rs', hrs'⟩ : ∃ rs', rs' = rs ++ if sx < 65535 then [sr] else [] := ⟨_, rfl⟩
  rw [← hrs']
  have HRS := Lib.hid hrs'
  clear hrs'
  have HH := Lib.hid (And.intro hn (And.intro hlen (And.intro hsl (And.intro hG (And.intro hs (And.intro hb1 (And.intro hb2 (And.intro hco (And.intro hwb (And.intro hown (And.intro hrl hB)))))))))))
  clear hsx hsr hn hlen hsl hG hs hb1 hb2 hco hwb hown hrl hB
  go_enter Try.func34, Try.ntmps34
  go_upto_region 0 with (fail)
  refine wp_region_noPanic ?_
  refine wp_region_held_drew (S := fun y : World => Below w.heap.size w y) (by kernel_rfl) ((Below.refl _ _).drew) (fun hHeld => ?_)
  generalize w.drew = wd at *
  refine wpAnyH_take (i := 0) (oi := { dst := some 8, op := Op.move (Operand.tmp 0), type := 26, pos := "routes.go:106", after := #[], guard := none }) (v := .slice A n c) rfl (by kernel_rfl) (by kernel_rfl) (by kernel_rfl) (fun _ _ _ h => h) (Or.inl ⟨by rfl, fun w hSw => by go_simp⟩) (by assumption) ?_
  try simp only [Act.put, List.setIfInBounds_toArray, List.set_cons_zero, List.set_cons_succ]
  refine wpAnyH_take (i := 1) (oi := { dst := some 9, op := Op.load 46 (Operand.tmp 1), type := 46, pos := "routes.go:106", after := #[], guard := none }) (v := .pointer (some ⟨qs, 0, none⟩)) rfl (by kernel_rfl) (by kernel_rfl) (by kernel_rfl) (fun _ _ _ h => h) (Or.inl ⟨by rfl, fun w hSw => by obtain ⟨p0, -⟩ := row1 (brow hSw HH.out.2.2.2.2.2.1); go_simp⟩) (by assumption) ?_
  try simp only [Act.put, List.setIfInBounds_toArray, List.set_cons_zero, List.set_cons_succ]
  refine wpAnyH_take (i := 3) (oi := { dst := some 11, op := Op.load 50 (Operand.tmp 2), type := 50, pos := "routes.go:106", after := #[], guard := none }) (v := .slice Ac nc cc) rfl (by kernel_rfl) (by kernel_rfl) (by kernel_rfl) (fun _ _ _ h => h) (Or.inl ⟨by rfl, fun w hSw => by obtain ⟨p0, -⟩ := row1 (brow hSw HH.out.2.2.2.2.2.2.1); go_simp⟩) (by assumption) ?_
  try simp only [Act.put, List.setIfInBounds_toArray, List.set_cons_zero, List.set_cons_succ]
  refine wpAnyH_ready (rs := [2, 8]) (by kernel_rfl) (by simp) ?_
  refine (AllReadyH.cons (o := { dst := some 10, op := Op.call { callee := Callee.value (Operand.func 36), args := #[Operand.tmp 9], argTypes := #[46] }, type := 79, pos := "routes.go:106", after := #[{ on := 1, ground := Ground.data }], guard := none }) rfl (fun K hK => ?_) (AllReadyH.cons (o := { dst := some 5, op := Op.alloc 53, type := 0, pos := "routes.go:106", after := #[], guard := none }) rfl (fun K hK => ?_) AllReadyH.nil))
  · go_simp
    with_reducible refine (feasible_any _ qs).mono ?_
    rintro en wn ⟨rfl, hwn⟩
    have hB2 := (Below.refl wd.heap.size wd).alloc (Nat.le_refl _) (.cells #[.pointer (some ⟨qs, 0, none⟩)] 46)
    have hrow := heap_alloc_new wd (.cells #[.pointer (some ⟨qs, 0, none⟩)] 46)
    rw [← hwn] at hB2 hrow
    have HFB := Lib.hid hrow
    try replace HRB := Lib.hid (brow hB2 HRB.out)
    have hS2 := hHeld.trans (hB2.mono hHeld.size)
    clear hwn hB2 hrow
    refine hK.out _ _ hS2 (fun hHeld2 => ?_)
    clear hK K hHeld hS2
    have hHeld := hHeld2
    clear hHeld2
    try simp only [Act.put, List.setIfInBounds_toArray, List.set_cons_zero, List.set_cons_succ]
    generalize wd.heap.size = fb at *
    clear wd
    generalize wn = wd at *
    refine wpAnyH_ready (rs := [4, 8]) (by kernel_rfl) (by simp) ?_
    refine (AllReadyH.cons (o := { dst := some 12, op := Op.call { callee := Callee.value (Operand.func 35), args := #[Operand.tmp 8, Operand.tmp 10, Operand.tmp 11], argTypes := #[26, 79, 50] }, type := 77, pos := "routes.go:106", after := #[{ on := 0, ground := Ground.data }, { on := 2, ground := Ground.data }, { on := 3, ground := Ground.data }, { on := 2, ground := Ground.chain }], guard := none }) rfl (fun K hK => ?_) (AllReadyH.cons (o := { dst := some 5, op := Op.alloc 53, type := 0, pos := "routes.go:106", after := #[], guard := none }) rfl (fun K hK => ?_) AllReadyH.nil))
    · go_simp
      with_reducible refine (short_any _ A n c G HH.out.1 HH.out.2.1.out (HH.out.2.2.1.below hHeld) HH.out.2.2.2.1 Ac nc cc cf (HH.out.2.2.2.2.2.2.2.1.below hHeld) ls qs cs fb f (HH.out.2.2.2.2.1.below hHeld) HFB.out).mono ?_
      rintro en wn ⟨rfl, hB2⟩
      try replace HRB := Lib.hid (brow hB2 HRB.out)
      have hS2 := hHeld.trans (hB2.mono hHeld.size)
      clear hB2 HFB
      rw [← HSH.out.1, ← HSH.out.2]
      refine hK.out _ _ hS2 (fun hHeld2 => ?_)
      clear hK K hHeld hS2
      have hHeld := hHeld2
      clear hHeld2
      try simp only [Act.put, List.setIfInBounds_toArray, List.set_cons_zero, List.set_cons_succ]
      clear wd
      generalize wn = wd at *
      refine wpAnyH_take (i := 5) (oi := { dst := some 7, op := Op.move (Operand.tmp 12), type := 77, pos := "routes.go:106", after := #[{ on := 4, ground := Ground.data }], guard := none }) (v := .tuple #[.agg #[.int .u32 (sr.a : Int), .int .u8 (sr.n : Int), .int .i64 (sr.v : Int), .int .u16 (sr.m : Int), .int .u16 (sr.s : Int)], .bool (decide (sx < 65535))]) rfl (by kernel_rfl) (by kernel_rfl) (by kernel_rfl) (fun _ _ _ h => h) (Or.inl ⟨by rfl, fun w hSw => by go_simp⟩) (by assumption) ?_
      try simp only [Act.put, List.setIfInBounds_toArray, List.set_cons_zero, List.set_cons_succ]
      refine wpAnyH_take (i := 6) (oi := { dst := some 13, op := Op.extract (Operand.tmp 7) 0, type := 53, pos := "routes.go:106", after := #[{ on := 5, ground := Ground.data }], guard := none }) (v := .agg #[.int .u32 (sr.a : Int), .int .u8 (sr.n : Int), .int .i64 (sr.v : Int), .int .u16 (sr.m : Int), .int .u16 (sr.s : Int)]) rfl (by kernel_rfl) (by kernel_rfl) (by kernel_rfl) (fun _ _ _ h => h) (Or.inl ⟨by rfl, fun w hSw => by go_simp⟩) (by assumption) ?_
      try simp only [Act.put, List.setIfInBounds_toArray, List.set_cons_zero, List.set_cons_succ]
      refine wpAnyH_take (i := 7) (oi := { dst := some 14, op := Op.extract (Operand.tmp 7) 1, type := 4, pos := "routes.go:106", after := #[{ on := 5, ground := Ground.data }, { on := 9, ground := Ground.gcOnly Departure.lateStores }], guard := none }) (v := .bool (decide (sx < 65535))) rfl (by kernel_rfl) (by kernel_rfl) (by kernel_rfl) (fun _ _ _ h => h) (Or.inl ⟨by rfl, fun w hSw => by go_simp⟩) (by assumption) ?_
      try simp only [Act.put, List.setIfInBounds_toArray, List.set_cons_zero, List.set_cons_succ]
      refine wpAnyH_ready (rs := [8]) (by kernel_rfl) (by simp) ?_
      refine (AllReadyH.cons (o := { dst := some 5, op := Op.alloc 53, type := 0, pos := "routes.go:106", after := #[], guard := none }) rfl (fun K hK => ?_) AllReadyH.nil)
      go_simp
      have hB2 := (Below.refl wd.heap.size wd).alloc (Nat.le_refl _) (.cells #[.int .u32 0, .int .u8 0, .int .i64 0, .int .u16 0, .int .u16 0] 53)
      have hrow := heap_alloc_new wd (.cells #[.int .u32 0, .int .u8 0, .int .i64 0, .int .u16 0, .int .u16 0] 53)
      have HRB := Lib.hid hrow
      try replace HFB := Lib.hid (brow hB2 HFB.out)
      have hS2 := hHeld.trans (hB2.mono hHeld.size)
      have HRL := Lib.hid hHeld.size
      clear hB2 hrow
      generalize wd.heap.size = rb at *
      generalize wd.alloc _ = wn at *
      refine hK.out _ _ hS2 (fun hHeld2 => ?_)
      clear hK K hHeld hS2
      have hHeld := hHeld2
      clear hHeld2
      try simp only [Act.put, List.setIfInBounds_toArray, List.set_cons_zero, List.set_cons_succ]
      clear wd
      generalize wn = wd at *
      refine wpAnyH_ready (rs := [9]) (by kernel_rfl) (by simp) ?_
      refine (AllReadyH.cons (o := { dst := none, op := Op.store 53 (Operand.tmp 5) (Operand.tmp 13), type := 0, pos := "routes.go:106", after := #[{ on := 8, ground := Ground.data }, { on := 6, ground := Ground.data }, { on := 4, ground := Ground.chain }, { on := 0, ground := Ground.phase }, { on := 1, ground := Ground.phase }, { on := 2, ground := Ground.phase }, { on := 3, ground := Ground.phase }, { on := 4, ground := Ground.phase }, { on := 5, ground := Ground.phase }, { on := 6, ground := Ground.phase }, { on := 7, ground := Ground.textOnly Departure.lateStores }, { on := 8, ground := Ground.phase }], guard := none }) rfl (fun K hK => ?_) AllReadyH.nil)
      obtain ⟨z0, z1, z2, z3, z4, zf⟩ := row5' HRB.out
      have hrl : rb < wd.heap.size := (Array.getElem?_eq_some_iff.1 HRB.out).1
      go_simp
      have HFin := Lib.hid (And.intro (set5 HRB.out (.int .u32 (sr.a : Int)) (.int .u8 (sr.n : Int)) (.int .i64 (sr.v : Int)) (.int .u16 (sr.m : Int)) (.int .u16 (sr.s : Int))) (grown5 wd rb (.int .u32 (sr.a : Int)) (.int .u8 (sr.n : Int)) (.int .i64 (sr.v : Int)) (.int .u16 (sr.m : Int)) (.int .u16 (sr.s : Int))))
      have hS2 := hHeld.grown HFin.out.2 hHeld.size (fun k e => by have := Option.some.inj e; subst this; exact HRL.out)
      clear z0 z1 z2 z3 z4 zf hrl
      generalize ((((wd.setCell _ _).setCell _ _).setCell _ _).setCell _ _).setCell _ _ = wn at *
      refine hK.out _ _ hS2 (fun hHeld2 => ?_)
      clear hK K hHeld hS2
      have hHeld := hHeld2
      clear hHeld2
      try simp only [Act.put, List.setIfInBounds_toArray, List.set_cons_zero, List.set_cons_succ]
      refine wpAnyH_take (i := 10) (oi := { dst := some 6, op := Op.assign (Operand.tmp 14), type := 4, pos := "routes.go:106", after := #[{ on := 7, ground := Ground.data }, { on := 9, ground := Ground.chain }, { on := 0, ground := Ground.phase }, { on := 1, ground := Ground.phase }, { on := 2, ground := Ground.phase }, { on := 3, ground := Ground.phase }, { on := 4, ground := Ground.phase }, { on := 5, ground := Ground.phase }, { on := 6, ground := Ground.phase }, { on := 7, ground := Ground.phase }, { on := 8, ground := Ground.phase }, { on := 9, ground := Ground.phase }], guard := none }) (v := .bool (decide (sx < 65535))) rfl (by kernel_rfl) (by kernel_rfl) (by kernel_rfl) (fun _ _ _ h => h) (Or.inl ⟨by rfl, fun w hSw => by go_simp⟩) (by assumption) ?_
      try simp only [Act.put, List.setIfInBounds_toArray, List.set_cons_zero, List.set_cons_succ]
      refine wpAnyH_done (by kernel_rfl) ?_ _
      try unfold NoPanic
      replace HFin := Lib.hid HFin.out.1
      have HT := Lib.hid (And.intro (brow hHeld HH.out.2.2.2.2.2.2.2.2.1) (And.intro (HH.out.2.2.2.2.2.2.2.2.2.1.kept hHeld) hHeld))
      clear hHeld
      obtain ⟨b0, bf⟩ := row1 HT.out.1
      have hwl : wb < wn.heap.size := (Array.getElem?_eq_some_iff.1 HT.out.1).1
      have hrbl : rb < wn.heap.size := (Array.getElem?_eq_some_iff.1 HFin.out).1
      obtain ⟨z0, z1, z2, z3, z4, zf⟩ := row5' HFin.out
      by_cases hx : sx < 65535
      · have hdt : decide (sx < 65535) = true := decide_eq_true hx
        have hre : rs' = rs ++ [sr] := by rw [HRS.out, if_pos hx]
        have HRE := Lib.hid hre
        rw [hdt]
        clear hx hdt hre
        have hb3 := (Below.refl wn.heap.size wn).alloc (Nat.le_refl _) (.cells #[.int .u32 (sr.a : Int), .int .u8 (sr.n : Int), .int .i64 (sr.v : Int), .int .u16 (sr.m : Int), .int .u16 (sr.s : Int)] 53)
        obtain ⟨v5, w5, hrun, O5, G5⟩ := rapp_run (wn.alloc (.cells #[.int .u32 (sr.a : Int), .int .u8 (sr.n : Int), .int .i64 (sr.v : Int), .int .u16 (sr.m : Int), .int .u16 (sr.s : Int)] 53)) B (.slice Av rs.length cv) rs sr wn.heap.size (HT.out.2.1.kept hb3) (heap_alloc_new wn (.cells #[.int .u32 (sr.a : Int), .int .u8 (sr.n : Int), .int .i64 (sr.v : Int), .int .u16 (sr.m : Int), .int .u16 (sr.s : Int)] 53)) (by have := HH.out.2.2.2.2.2.2.2.2.2.2.1; omega) (Nat.le_trans HH.out.2.2.2.2.2.2.2.2.2.2.2 (Nat.le_trans HT.out.2.2.size hb3.size))
        obtain ⟨A5, c5, hv5, -, -⟩ := O5.form (fun _ => rfl)
        obtain ⟨n5, hn5⟩ : ∃ n5, n5 = (rs ++ [sr]).length := ⟨_, rfl⟩
        rw [← hn5] at hv5
        have hr5 : w5.heap[wb]? = some (.cells #[.slice Av rs.length cv] 48 (0, 0)) := (G5.block wb (Nat.lt_of_lt_of_le hwl hb3.size) (fun e => (HT.out.2.1.ne HT.out.1 (by decide)) e.symm)).trans (brow hb3 HT.out.1)
        subst hv5
        have HX := Lib.hid (And.intro O5 (And.intro G5 (And.intro hr5 (And.intro hb3 hn5))))
        have HRUN := Lib.hid hrun
        obtain ⟨e0, ef⟩ := row1 hr5
        have hwl5 : wb < w5.heap.size := (Array.getElem?_eq_some_iff.1 hr5).1
        clear O5 G5 hr5 hb3 hn5 hrun
        go_wp2_with (at_builtin; refine Lib.wpList_append_run _ rfl _ _ _ _ rfl _ _ rfl rfl _ _ HRUN.out ?_)
        refine bodyPost_end (v := .tuple #[]) (by simp [results, Try.results34, go_sem]) rfl ⟨rfl, .slice A5 n5 c5, heap_setCell_same w5 wb 0 _ 48 (.slice A5 n5 c5) HX.out.2.2.1, ?_, ?_⟩
        · rw [HRE.out]; exact gown_set HX.out.1 HX.out.2.2.1 (by decide) (.slice A5 n5 c5)
        · exact (((Fr.of HT.out.2.2).trans (Fr.of HX.out.2.2.2.1)).trans (Fr.grown HX.out.2.1 (fun k e => Or.inr e))).trans (Fr.grown (grown_setCell w5 wb 0 _) (fun k e => Or.inl (Option.some.inj e).symm))
      · have hdt : decide (sx < 65535) = false := decide_eq_false hx
        have hre : rs' = rs := by rw [HRS.out, if_neg hx, List.append_nil]
        have HRE := Lib.hid hre
        rw [hdt]
        clear hx hdt hre
        go_wp2
        exact bodyPost_end (v := .tuple #[]) (by simp [results, Try.results34, go_sem]) rfl ⟨rfl, .slice Av rs.length cv, HT.out.1, by rw [HRE.out]; exact HT.out.2.1, Fr.of HT.out.2.2⟩
    · go_simp
      have hB2 := (Below.refl wd.heap.size wd).alloc (Nat.le_refl _) (.cells #[.int .u32 0, .int .u8 0, .int .i64 0, .int .u16 0, .int .u16 0] 53)
      have hrow := heap_alloc_new wd (.cells #[.int .u32 0, .int .u8 0, .int .i64 0, .int .u16 0, .int .u16 0] 53)
      have HRB := Lib.hid hrow
      try replace HFB := Lib.hid (brow hB2 HFB.out)
      have hS2 := hHeld.trans (hB2.mono hHeld.size)
      have HRL := Lib.hid hHeld.size
      clear hB2 hrow
      generalize wd.heap.size = rb at *
      generalize wd.alloc _ = wn at *
      refine hK.out _ _ hS2 (fun hHeld2 => ?_)
      clear hK K hHeld hS2
      have hHeld := hHeld2
      clear hHeld2
      try simp only [Act.put, List.setIfInBounds_toArray, List.set_cons_zero, List.set_cons_succ]
      clear wd
      generalize wn = wd at *
      refine wpAnyH_ready (rs := [4]) (by kernel_rfl) (by simp) ?_
      refine (AllReadyH.cons (o := { dst := some 12, op := Op.call { callee := Callee.value (Operand.func 35), args := #[Operand.tmp 8, Operand.tmp 10, Operand.tmp 11], argTypes := #[26, 79, 50] }, type := 77, pos := "routes.go:106", after := #[{ on := 0, ground := Ground.data }, { on := 2, ground := Ground.data }, { on := 3, ground := Ground.data }, { on := 2, ground := Ground.chain }], guard := none }) rfl (fun K hK => ?_) AllReadyH.nil)
      go_simp
      with_reducible refine (short_any _ A n c G HH.out.1 HH.out.2.1.out (HH.out.2.2.1.below hHeld) HH.out.2.2.2.1 Ac nc cc cf (HH.out.2.2.2.2.2.2.2.1.below hHeld) ls qs cs fb f (HH.out.2.2.2.2.1.below hHeld) HFB.out).mono ?_
      rintro en wn ⟨rfl, hB2⟩
      try replace HRB := Lib.hid (brow hB2 HRB.out)
      have hS2 := hHeld.trans (hB2.mono hHeld.size)
      clear hB2 HFB
      rw [← HSH.out.1, ← HSH.out.2]
      refine hK.out _ _ hS2 (fun hHeld2 => ?_)
      clear hK K hHeld hS2
      have hHeld := hHeld2
      clear hHeld2
      try simp only [Act.put, List.setIfInBounds_toArray, List.set_cons_zero, List.set_cons_succ]
      clear wd
      generalize wn = wd at *
      refine wpAnyH_take (i := 5) (oi := { dst := some 7, op := Op.move (Operand.tmp 12), type := 77, pos := "routes.go:106", after := #[{ on := 4, ground := Ground.data }], guard := none }) (v := .tuple #[.agg #[.int .u32 (sr.a : Int), .int .u8 (sr.n : Int), .int .i64 (sr.v : Int), .int .u16 (sr.m : Int), .int .u16 (sr.s : Int)], .bool (decide (sx < 65535))]) rfl (by kernel_rfl) (by kernel_rfl) (by kernel_rfl) (fun _ _ _ h => h) (Or.inl ⟨by rfl, fun w hSw => by go_simp⟩) (by assumption) ?_
      try simp only [Act.put, List.setIfInBounds_toArray, List.set_cons_zero, List.set_cons_succ]
      refine wpAnyH_take (i := 6) (oi := { dst := some 13, op := Op.extract (Operand.tmp 7) 0, type := 53, pos := "routes.go:106", after := #[{ on := 5, ground := Ground.data }], guard := none }) (v := .agg #[.int .u32 (sr.a : Int), .int .u8 (sr.n : Int), .int .i64 (sr.v : Int), .int .u16 (sr.m : Int), .int .u16 (sr.s : Int)]) rfl (by kernel_rfl) (by kernel_rfl) (by kernel_rfl) (fun _ _ _ h => h) (Or.inl ⟨by rfl, fun w hSw => by go_simp⟩) (by assumption) ?_
      try simp only [Act.put, List.setIfInBounds_toArray, List.set_cons_zero, List.set_cons_succ]
      refine wpAnyH_take (i := 7) (oi := { dst := some 14, op := Op.extract (Operand.tmp 7) 1, type := 4, pos := "routes.go:106", after := #[{ on := 5, ground := Ground.data }, { on := 9, ground := Ground.gcOnly Departure.lateStores }], guard := none }) (v := .bool (decide (sx < 65535))) rfl (by kernel_rfl) (by kernel_rfl) (by kernel_rfl) (fun _ _ _ h => h) (Or.inl ⟨by rfl, fun w hSw => by go_simp⟩) (by assumption) ?_
      try simp only [Act.put, List.setIfInBounds_toArray, List.set_cons_zero, List.set_cons_succ]
      refine wpAnyH_ready (rs := [9]) (by kernel_rfl) (by simp) ?_
      refine (AllReadyH.cons (o := { dst := none, op := Op.store 53 (Operand.tmp 5) (Operand.tmp 13), type := 0, pos := "routes.go:106", after := #[{ on := 8, ground := Ground.data }, { on := 6, ground := Ground.data }, { on := 4, ground := Ground.chain }, { on := 0, ground := Ground.phase }, { on := 1, ground := Ground.phase }, { on := 2, ground := Ground.phase }, { on := 3, ground := Ground.phase }, { on := 4, ground := Ground.phase }, { on := 5, ground := Ground.phase }, { on := 6, ground := Ground.phase }, { on := 7, ground := Ground.textOnly Departure.lateStores }, { on := 8, ground := Ground.phase }], guard := none }) rfl (fun K hK => ?_) AllReadyH.nil)
      obtain ⟨z0, z1, z2, z3, z4, zf⟩ := row5' HRB.out
      have hrl : rb < wd.heap.size := (Array.getElem?_eq_some_iff.1 HRB.out).1
      go_simp
      have HFin := Lib.hid (And.intro (set5 HRB.out (.int .u32 (sr.a : Int)) (.int .u8 (sr.n : Int)) (.int .i64 (sr.v : Int)) (.int .u16 (sr.m : Int)) (.int .u16 (sr.s : Int))) (grown5 wd rb (.int .u32 (sr.a : Int)) (.int .u8 (sr.n : Int)) (.int .i64 (sr.v : Int)) (.int .u16 (sr.m : Int)) (.int .u16 (sr.s : Int))))
      have hS2 := hHeld.grown HFin.out.2 hHeld.size (fun k e => by have := Option.some.inj e; subst this; exact HRL.out)
      clear z0 z1 z2 z3 z4 zf hrl
      generalize ((((wd.setCell _ _).setCell _ _).setCell _ _).setCell _ _).setCell _ _ = wn at *
      refine hK.out _ _ hS2 (fun hHeld2 => ?_)
      clear hK K hHeld hS2
      have hHeld := hHeld2
      clear hHeld2
      try simp only [Act.put, List.setIfInBounds_toArray, List.set_cons_zero, List.set_cons_succ]
      refine wpAnyH_take (i := 10) (oi := { dst := some 6, op := Op.assign (Operand.tmp 14), type := 4, pos := "routes.go:106", after := #[{ on := 7, ground := Ground.data }, { on := 9, ground := Ground.chain }, { on := 0, ground := Ground.phase }, { on := 1, ground := Ground.phase }, { on := 2, ground := Ground.phase }, { on := 3, ground := Ground.phase }, { on := 4, ground := Ground.phase }, { on := 5, ground := Ground.phase }, { on := 6, ground := Ground.phase }, { on := 7, ground := Ground.phase }, { on := 8, ground := Ground.phase }, { on := 9, ground := Ground.phase }], guard := none }) (v := .bool (decide (sx < 65535))) rfl (by kernel_rfl) (by kernel_rfl) (by kernel_rfl) (fun _ _ _ h => h) (Or.inl ⟨by rfl, fun w hSw => by go_simp⟩) (by assumption) ?_
      try simp only [Act.put, List.setIfInBounds_toArray, List.set_cons_zero, List.set_cons_succ]
      refine wpAnyH_done (by kernel_rfl) ?_ _
      try unfold NoPanic
      replace HFin := Lib.hid HFin.out.1
      have HT := Lib.hid (And.intro (brow hHeld HH.out.2.2.2.2.2.2.2.2.1) (And.intro (HH.out.2.2.2.2.2.2.2.2.2.1.kept hHeld) hHeld))
      clear hHeld
      obtain ⟨b0, bf⟩ := row1 HT.out.1
      have hwl : wb < wn.heap.size := (Array.getElem?_eq_some_iff.1 HT.out.1).1
      have hrbl : rb < wn.heap.size := (Array.getElem?_eq_some_iff.1 HFin.out).1
      obtain ⟨z0, z1, z2, z3, z4, zf⟩ := row5' HFin.out
      by_cases hx : sx < 65535
      · have hdt : decide (sx < 65535) = true := decide_eq_true hx
        have hre : rs' = rs ++ [sr] := by rw [HRS.out, if_pos hx]
        have HRE := Lib.hid hre
        rw [hdt]
        clear hx hdt hre
        have hb3 := (Below.refl wn.heap.size wn).alloc (Nat.le_refl _) (.cells #[.int .u32 (sr.a : Int), .int .u8 (sr.n : Int), .int .i64 (sr.v : Int), .int .u16 (sr.m : Int), .int .u16 (sr.s : Int)] 53)
        obtain ⟨v5, w5, hrun, O5, G5⟩ := rapp_run (wn.alloc (.cells #[.int .u32 (sr.a : Int), .int .u8 (sr.n : Int), .int .i64 (sr.v : Int), .int .u16 (sr.m : Int), .int .u16 (sr.s : Int)] 53)) B (.slice Av rs.length cv) rs sr wn.heap.size (HT.out.2.1.kept hb3) (heap_alloc_new wn (.cells #[.int .u32 (sr.a : Int), .int .u8 (sr.n : Int), .int .i64 (sr.v : Int), .int .u16 (sr.m : Int), .int .u16 (sr.s : Int)] 53)) (by have := HH.out.2.2.2.2.2.2.2.2.2.2.1; omega) (Nat.le_trans HH.out.2.2.2.2.2.2.2.2.2.2.2 (Nat.le_trans HT.out.2.2.size hb3.size))
        obtain ⟨A5, c5, hv5, -, -⟩ := O5.form (fun _ => rfl)
        obtain ⟨n5, hn5⟩ : ∃ n5, n5 = (rs ++ [sr]).length := ⟨_, rfl⟩
        rw [← hn5] at hv5
        have hr5 : w5.heap[wb]? = some (.cells #[.slice Av rs.length cv] 48 (0, 0)) := (G5.block wb (Nat.lt_of_lt_of_le hwl hb3.size) (fun e => (HT.out.2.1.ne HT.out.1 (by decide)) e.symm)).trans (brow hb3 HT.out.1)
        subst hv5
        have HX := Lib.hid (And.intro O5 (And.intro G5 (And.intro hr5 (And.intro hb3 hn5))))
        have HRUN := Lib.hid hrun
        obtain ⟨e0, ef⟩ := row1 hr5
        have hwl5 : wb < w5.heap.size := (Array.getElem?_eq_some_iff.1 hr5).1
        clear O5 G5 hr5 hb3 hn5 hrun
        go_wp2_with (at_builtin; refine Lib.wpList_append_run _ rfl _ _ _ _ rfl _ _ rfl rfl _ _ HRUN.out ?_)
        refine bodyPost_end (v := .tuple #[]) (by simp [results, Try.results34, go_sem]) rfl ⟨rfl, .slice A5 n5 c5, heap_setCell_same w5 wb 0 _ 48 (.slice A5 n5 c5) HX.out.2.2.1, ?_, ?_⟩
        · rw [HRE.out]; exact gown_set HX.out.1 HX.out.2.2.1 (by decide) (.slice A5 n5 c5)
        · exact (((Fr.of HT.out.2.2).trans (Fr.of HX.out.2.2.2.1)).trans (Fr.grown HX.out.2.1 (fun k e => Or.inr e))).trans (Fr.grown (grown_setCell w5 wb 0 _) (fun k e => Or.inl (Option.some.inj e).symm))
      · have hdt : decide (sx < 65535) = false := decide_eq_false hx
        have hre : rs' = rs := by rw [HRS.out, if_neg hx, List.append_nil]
        have HRE := Lib.hid hre
        rw [hdt]
        clear hx hdt hre
        go_wp2
        exact bodyPost_end (v := .tuple #[]) (by simp [results, Try.results34, go_sem]) rfl ⟨rfl, .slice Av rs.length cv, HT.out.1, by rw [HRE.out]; exact HT.out.2.1, Fr.of HT.out.2.2⟩
  · go_simp
    have hB2 := (Below.refl wd.heap.size wd).alloc (Nat.le_refl _) (.cells #[.int .u32 0, .int .u8 0, .int .i64 0, .int .u16 0, .int .u16 0] 53)
    have hrow := heap_alloc_new wd (.cells #[.int .u32 0, .int .u8 0, .int .i64 0, .int .u16 0, .int .u16 0] 53)
    have HRB := Lib.hid hrow
    try replace HFB := Lib.hid (brow hB2 HFB.out)
    have hS2 := hHeld.trans (hB2.mono hHeld.size)
    have HRL := Lib.hid hHeld.size
    clear hB2 hrow
    generalize wd.heap.size = rb at *
    generalize wd.alloc _ = wn at *
    refine hK.out _ _ hS2 (fun hHeld2 => ?_)
    clear hK K hHeld hS2
    have hHeld := hHeld2
    clear hHeld2
    try simp only [Act.put, List.setIfInBounds_toArray, List.set_cons_zero, List.set_cons_succ]
    clear wd
    generalize wn = wd at *
    refine wpAnyH_ready (rs := [2]) (by kernel_rfl) (by simp) ?_
    refine (AllReadyH.cons (o := { dst := some 10, op := Op.call { callee := Callee.value (Operand.func 36), args := #[Operand.tmp 9], argTypes := #[46] }, type := 79, pos := "routes.go:106", after := #[{ on := 1, ground := Ground.data }], guard := none }) rfl (fun K hK => ?_) AllReadyH.nil)
    go_simp
    with_reducible refine (feasible_any _ qs).mono ?_
    rintro en wn ⟨rfl, hwn⟩
    have hB2 := (Below.refl wd.heap.size wd).alloc (Nat.le_refl _) (.cells #[.pointer (some ⟨qs, 0, none⟩)] 46)
    have hrow := heap_alloc_new wd (.cells #[.pointer (some ⟨qs, 0, none⟩)] 46)
    rw [← hwn] at hB2 hrow
    have HFB := Lib.hid hrow
    try replace HRB := Lib.hid (brow hB2 HRB.out)
    have hS2 := hHeld.trans (hB2.mono hHeld.size)
    clear hwn hB2 hrow
    refine hK.out _ _ hS2 (fun hHeld2 => ?_)
    clear hK K hHeld hS2
    have hHeld := hHeld2
    clear hHeld2
    try simp only [Act.put, List.setIfInBounds_toArray, List.set_cons_zero, List.set_cons_succ]
    generalize wd.heap.size = fb at *
    clear wd
    generalize wn = wd at *
    refine wpAnyH_ready (rs := [4]) (by kernel_rfl) (by simp) ?_
    refine (AllReadyH.cons (o := { dst := some 12, op := Op.call { callee := Callee.value (Operand.func 35), args := #[Operand.tmp 8, Operand.tmp 10, Operand.tmp 11], argTypes := #[26, 79, 50] }, type := 77, pos := "routes.go:106", after := #[{ on := 0, ground := Ground.data }, { on := 2, ground := Ground.data }, { on := 3, ground := Ground.data }, { on := 2, ground := Ground.chain }], guard := none }) rfl (fun K hK => ?_) AllReadyH.nil)
    go_simp
    with_reducible refine (short_any _ A n c G HH.out.1 HH.out.2.1.out (HH.out.2.2.1.below hHeld) HH.out.2.2.2.1 Ac nc cc cf (HH.out.2.2.2.2.2.2.2.1.below hHeld) ls qs cs fb f (HH.out.2.2.2.2.1.below hHeld) HFB.out).mono ?_
    rintro en wn ⟨rfl, hB2⟩
    try replace HRB := Lib.hid (brow hB2 HRB.out)
    have hS2 := hHeld.trans (hB2.mono hHeld.size)
    clear hB2 HFB
    rw [← HSH.out.1, ← HSH.out.2]
    refine hK.out _ _ hS2 (fun hHeld2 => ?_)
    clear hK K hHeld hS2
    have hHeld := hHeld2
    clear hHeld2
    try simp only [Act.put, List.setIfInBounds_toArray, List.set_cons_zero, List.set_cons_succ]
    clear wd
    generalize wn = wd at *
    refine wpAnyH_take (i := 5) (oi := { dst := some 7, op := Op.move (Operand.tmp 12), type := 77, pos := "routes.go:106", after := #[{ on := 4, ground := Ground.data }], guard := none }) (v := .tuple #[.agg #[.int .u32 (sr.a : Int), .int .u8 (sr.n : Int), .int .i64 (sr.v : Int), .int .u16 (sr.m : Int), .int .u16 (sr.s : Int)], .bool (decide (sx < 65535))]) rfl (by kernel_rfl) (by kernel_rfl) (by kernel_rfl) (fun _ _ _ h => h) (Or.inl ⟨by rfl, fun w hSw => by go_simp⟩) (by assumption) ?_
    try simp only [Act.put, List.setIfInBounds_toArray, List.set_cons_zero, List.set_cons_succ]
    refine wpAnyH_take (i := 6) (oi := { dst := some 13, op := Op.extract (Operand.tmp 7) 0, type := 53, pos := "routes.go:106", after := #[{ on := 5, ground := Ground.data }], guard := none }) (v := .agg #[.int .u32 (sr.a : Int), .int .u8 (sr.n : Int), .int .i64 (sr.v : Int), .int .u16 (sr.m : Int), .int .u16 (sr.s : Int)]) rfl (by kernel_rfl) (by kernel_rfl) (by kernel_rfl) (fun _ _ _ h => h) (Or.inl ⟨by rfl, fun w hSw => by go_simp⟩) (by assumption) ?_
    try simp only [Act.put, List.setIfInBounds_toArray, List.set_cons_zero, List.set_cons_succ]
    refine wpAnyH_take (i := 7) (oi := { dst := some 14, op := Op.extract (Operand.tmp 7) 1, type := 4, pos := "routes.go:106", after := #[{ on := 5, ground := Ground.data }, { on := 9, ground := Ground.gcOnly Departure.lateStores }], guard := none }) (v := .bool (decide (sx < 65535))) rfl (by kernel_rfl) (by kernel_rfl) (by kernel_rfl) (fun _ _ _ h => h) (Or.inl ⟨by rfl, fun w hSw => by go_simp⟩) (by assumption) ?_
    try simp only [Act.put, List.setIfInBounds_toArray, List.set_cons_zero, List.set_cons_succ]
    refine wpAnyH_ready (rs := [9]) (by kernel_rfl) (by simp) ?_
    refine (AllReadyH.cons (o := { dst := none, op := Op.store 53 (Operand.tmp 5) (Operand.tmp 13), type := 0, pos := "routes.go:106", after := #[{ on := 8, ground := Ground.data }, { on := 6, ground := Ground.data }, { on := 4, ground := Ground.chain }, { on := 0, ground := Ground.phase }, { on := 1, ground := Ground.phase }, { on := 2, ground := Ground.phase }, { on := 3, ground := Ground.phase }, { on := 4, ground := Ground.phase }, { on := 5, ground := Ground.phase }, { on := 6, ground := Ground.phase }, { on := 7, ground := Ground.textOnly Departure.lateStores }, { on := 8, ground := Ground.phase }], guard := none }) rfl (fun K hK => ?_) AllReadyH.nil)
    obtain ⟨z0, z1, z2, z3, z4, zf⟩ := row5' HRB.out
    have hrl : rb < wd.heap.size := (Array.getElem?_eq_some_iff.1 HRB.out).1
    go_simp
    have HFin := Lib.hid (And.intro (set5 HRB.out (.int .u32 (sr.a : Int)) (.int .u8 (sr.n : Int)) (.int .i64 (sr.v : Int)) (.int .u16 (sr.m : Int)) (.int .u16 (sr.s : Int))) (grown5 wd rb (.int .u32 (sr.a : Int)) (.int .u8 (sr.n : Int)) (.int .i64 (sr.v : Int)) (.int .u16 (sr.m : Int)) (.int .u16 (sr.s : Int))))
    have hS2 := hHeld.grown HFin.out.2 hHeld.size (fun k e => by have := Option.some.inj e; subst this; exact HRL.out)
    clear z0 z1 z2 z3 z4 zf hrl
    generalize ((((wd.setCell _ _).setCell _ _).setCell _ _).setCell _ _).setCell _ _ = wn at *
    refine hK.out _ _ hS2 (fun hHeld2 => ?_)
    clear hK K hHeld hS2
    have hHeld := hHeld2
    clear hHeld2
    try simp only [Act.put, List.setIfInBounds_toArray, List.set_cons_zero, List.set_cons_succ]
    refine wpAnyH_take (i := 10) (oi := { dst := some 6, op := Op.assign (Operand.tmp 14), type := 4, pos := "routes.go:106", after := #[{ on := 7, ground := Ground.data }, { on := 9, ground := Ground.chain }, { on := 0, ground := Ground.phase }, { on := 1, ground := Ground.phase }, { on := 2, ground := Ground.phase }, { on := 3, ground := Ground.phase }, { on := 4, ground := Ground.phase }, { on := 5, ground := Ground.phase }, { on := 6, ground := Ground.phase }, { on := 7, ground := Ground.phase }, { on := 8, ground := Ground.phase }, { on := 9, ground := Ground.phase }], guard := none }) (v := .bool (decide (sx < 65535))) rfl (by kernel_rfl) (by kernel_rfl) (by kernel_rfl) (fun _ _ _ h => h) (Or.inl ⟨by rfl, fun w hSw => by go_simp⟩) (by assumption) ?_
    try simp only [Act.put, List.setIfInBounds_toArray, List.set_cons_zero, List.set_cons_succ]
    refine wpAnyH_done (by kernel_rfl) ?_ _
    try unfold NoPanic
    replace HFin := Lib.hid HFin.out.1
    have HT := Lib.hid (And.intro (brow hHeld HH.out.2.2.2.2.2.2.2.2.1) (And.intro (HH.out.2.2.2.2.2.2.2.2.2.1.kept hHeld) hHeld))
    clear hHeld
    obtain ⟨b0, bf⟩ := row1 HT.out.1
    have hwl : wb < wn.heap.size := (Array.getElem?_eq_some_iff.1 HT.out.1).1
    have hrbl : rb < wn.heap.size := (Array.getElem?_eq_some_iff.1 HFin.out).1
    obtain ⟨z0, z1, z2, z3, z4, zf⟩ := row5' HFin.out
    by_cases hx : sx < 65535
    · have hdt : decide (sx < 65535) = true := decide_eq_true hx
      have hre : rs' = rs ++ [sr] := by rw [HRS.out, if_pos hx]
      have HRE := Lib.hid hre
      rw [hdt]
      clear hx hdt hre
      have hb3 := (Below.refl wn.heap.size wn).alloc (Nat.le_refl _) (.cells #[.int .u32 (sr.a : Int), .int .u8 (sr.n : Int), .int .i64 (sr.v : Int), .int .u16 (sr.m : Int), .int .u16 (sr.s : Int)] 53)
      obtain ⟨v5, w5, hrun, O5, G5⟩ := rapp_run (wn.alloc (.cells #[.int .u32 (sr.a : Int), .int .u8 (sr.n : Int), .int .i64 (sr.v : Int), .int .u16 (sr.m : Int), .int .u16 (sr.s : Int)] 53)) B (.slice Av rs.length cv) rs sr wn.heap.size (HT.out.2.1.kept hb3) (heap_alloc_new wn (.cells #[.int .u32 (sr.a : Int), .int .u8 (sr.n : Int), .int .i64 (sr.v : Int), .int .u16 (sr.m : Int), .int .u16 (sr.s : Int)] 53)) (by have := HH.out.2.2.2.2.2.2.2.2.2.2.1; omega) (Nat.le_trans HH.out.2.2.2.2.2.2.2.2.2.2.2 (Nat.le_trans HT.out.2.2.size hb3.size))
      obtain ⟨A5, c5, hv5, -, -⟩ := O5.form (fun _ => rfl)
      obtain ⟨n5, hn5⟩ : ∃ n5, n5 = (rs ++ [sr]).length := ⟨_, rfl⟩
      rw [← hn5] at hv5
      have hr5 : w5.heap[wb]? = some (.cells #[.slice Av rs.length cv] 48 (0, 0)) := (G5.block wb (Nat.lt_of_lt_of_le hwl hb3.size) (fun e => (HT.out.2.1.ne HT.out.1 (by decide)) e.symm)).trans (brow hb3 HT.out.1)
      subst hv5
      have HX := Lib.hid (And.intro O5 (And.intro G5 (And.intro hr5 (And.intro hb3 hn5))))
      have HRUN := Lib.hid hrun
      obtain ⟨e0, ef⟩ := row1 hr5
      have hwl5 : wb < w5.heap.size := (Array.getElem?_eq_some_iff.1 hr5).1
      clear O5 G5 hr5 hb3 hn5 hrun
      go_wp2_with (at_builtin; refine Lib.wpList_append_run _ rfl _ _ _ _ rfl _ _ rfl rfl _ _ HRUN.out ?_)
      refine bodyPost_end (v := .tuple #[]) (by simp [results, Try.results34, go_sem]) rfl ⟨rfl, .slice A5 n5 c5, heap_setCell_same w5 wb 0 _ 48 (.slice A5 n5 c5) HX.out.2.2.1, ?_, ?_⟩
      · rw [HRE.out]; exact gown_set HX.out.1 HX.out.2.2.1 (by decide) (.slice A5 n5 c5)
      · exact (((Fr.of HT.out.2.2).trans (Fr.of HX.out.2.2.2.1)).trans (Fr.grown HX.out.2.1 (fun k e => Or.inr e))).trans (Fr.grown (grown_setCell w5 wb 0 _) (fun k e => Or.inl (Option.some.inj e).symm))
    · have hdt : decide (sx < 65535) = false := decide_eq_false hx
      have hre : rs' = rs := by rw [HRS.out, if_neg hx, List.append_nil]
      have HRE := Lib.hid hre
      rw [hdt]
      clear hx hdt hre
      go_wp2
      exact bodyPost_end (v := .tuple #[]) (by simp [results, Try.results34, go_sem]) rfl ⟨rfl, .slice Av rs.length cv, HT.out.1, by rw [HRE.out]; exact HT.out.2.1, Fr.of HT.out.2.2⟩
end Go.Proofs.Ytkbhmdoichiinaa.Rts
