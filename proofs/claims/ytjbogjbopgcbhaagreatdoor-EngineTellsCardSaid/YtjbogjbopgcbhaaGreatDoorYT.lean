/- A law's router: what it tells of its ways (pure). -/
import Derived.Test.YtjbogjbopgcbhaaGreatDoorYS
namespace Go.Proofs.YtjbogjbopgcbhaaGreatDoor.Eg
open Pre Ser Rts
open Go.Proofs.YtjbogjbopgcbhaaGreatDoor.Src (row1 row2 Mk SrcAt)
open Go.Proofs.YtjbogjbopgcbhaaGreatDoor.Lk (LkAt)
open Go.ChangeShapes Go.WideShapes Go.ChangeAt Go.RowKit
set_option maxRecDepth 8000
set_option linter.unusedVariables false
set_option linter.unusedSimpArgs false
open Go.Proofs.YtjbogjbopgcbhaaGreatDoor.Src (pv mv pA pN)
set_option linter.unusedSimpArgs false
def oR : Ro := ⟨201326592, 24, 0, 0, 1⟩
theorem askAll_keep (bs : List (Nat × Nat)) (e : Eng) : (e.askAll bs).due = e.due ∧ (e.askAll bs).lost = e.lost := by
  rw [askAll_same]; exact ⟨rfl, rfl⟩
theorem missAll_due (l : List Ro) (e : Eng) : (l.foldl Eng.miss e).due = e.due := by rw [missAll_same]
theorem sel_more {e e' : Eng} {ts : List Ro} (h : Sel e e' ts) (hne : e.ch ≠ ts) (hin : ∀ r ∈ e.ch, ts.any (fun u => u.pk == r.a * 256 + r.n) = true) : e'.due = true ∧ e'.lost = e.lost := by
  obtain ⟨rs, bs, -, -, -, -, -, rfl⟩ := h
  obtain ⟨k1, k2⟩ := askAll_keep bs ((e.lows (e.ways rs)).choose ts)
  rw [k1, k2]
  have hl : (e.lows (e.ways rs)).ch = e.ch ∧ (e.lows (e.ways rs)).lost = e.lost := by rw [lows_same]; exact ⟨rfl, rfl⟩
  generalize e.lows (e.ways rs) = z at *
  have hc : z.choose ts = z.ch.foldl Eng.miss { z with ch := ts, due := true } := if_neg (by rw [hl.1]; exact hne)
  rw [hc]
  refine ⟨missAll_due _ _, ?_⟩
  rw [hl.1]
  obtain ⟨y0, hy0⟩ : ∃ y0 : Eng, y0 = { z with ch := ts, due := true } := ⟨_, rfl⟩
  rw [← hy0]
  have key : ∀ (l : List Ro) (y : Eng), (∀ r ∈ l, y.hasP r.a r.n = true) → l.foldl Eng.miss y = y := fun l => by
    induction l with
    | nil => exact fun y _ => rfl
    | cons r l ih =>
      intro y hy
      rw [List.foldl_cons]
      have h1 : y.miss r = y := if_pos (hy r (List.mem_cons_self ..))
      rw [h1]
      exact ih y fun r hr => hy r (List.mem_cons_of_mem _ hr)
  rw [key e.ch y0 (fun r hr => by rw [hy0]; exact hin r hr), hy0]
  exact hl.2
theorem ro_two {ts : List Ro} {a b : Ro} (hu : GUp Ro.pk ts) (hp : ts.Perm [a, b]) : ts = [a, b] ∨ ts = [b, a] := by
  have hl := hp.length_eq
  have hm := fun x => hp.mem_iff (a := x)
  rcases ts with _ | ⟨u, _ | ⟨v, _ | ⟨z, l⟩⟩⟩
  · cases hl
  · cases hl
  · have h1 := (hm u).1 (List.mem_cons_self ..)
    have h2 := (hm v).1 (List.mem_cons_of_mem _ (List.mem_cons_self ..))
    have h3 : u ≠ v := fun e9 => by
      unfold GUp at hu
      rw [List.pairwise_cons] at hu
      have := hu.1 v (List.mem_cons_self ..)
      rw [e9] at this
      exact absurd this (Nat.lt_irrefl _)
    simp only [List.mem_cons, List.not_mem_nil, or_false] at h1 h2
    rcases h1 with rfl | rfl <;> rcases h2 with rfl | rfl
    · exact absurd rfl h3
    · exact Or.inl rfl
    · exact Or.inr rfl
    · exact absurd rfl h3
  · cases hl
theorem sel_two {e e' : Eng} {ts : List Ro} (h : Sel e e' ts) {y : E} {r : Ro} (hL : e.L = [y]) (ho : e.own = [oH]) (hi : e.id = 0) (hs : selP e.cf e.f e.L r.a r.n = some r) (hr : r = wayOf e.cf y) : ts = [oR, r] ∨ ts = [r, oR] := by
  obtain ⟨rs, bs, S, hl, hp, hu, -⟩ := h
  have hin : r ∈ rs := (S.mem r).2 hs
  have hall : ∀ u ∈ rs, u = r := fun u hm => by
    obtain ⟨x, hx, hxe, -⟩ := sel_mem S hm
    rw [hL, List.mem_singleton] at hx
    rw [hxe, hx, hr]
  have hrs : rs = [r] := by
    rcases rs with _ | ⟨u, _ | ⟨v, l⟩⟩
    · cases hin
    · rw [hall u (List.mem_cons_self ..)]
    · rw [hL] at hl
      exact absurd hl (by simp)
  have hw : e.ways rs = [oR, r] := by
    unfold Eng.ways
    rw [ho, hi, hrs]; rfl
  rw [hw] at hp
  exact ro_two hu hp
theorem sel_less {e e' : Eng} {ts : List Ro} (h : Sel e e' ts) {r : Ro} (hts : ts = [oR]) (hc : e.ch = [oR, r] ∨ e.ch = [r, oR]) (hr : r.pk ≠ oR.pk) (hlo : e.lost = []) : e'.due = true ∧ e'.lost = [(r.a, r.n)] := by
  obtain ⟨rs, bs, -, -, -, -, -, rfl⟩ := h
  subst hts
  obtain ⟨k1, k2⟩ := askAll_keep bs ((e.lows (e.ways rs)).choose [oR])
  rw [k1, k2]
  have hl : (e.lows (e.ways rs)).ch = e.ch ∧ (e.lows (e.ways rs)).lost = e.lost := by rw [lows_same]; exact ⟨rfl, rfl⟩
  generalize e.lows (e.ways rs) = z at *
  have hne : z.ch ≠ [oR] := by
    rw [hl.1]
    rcases hc with hc | hc <;> rw [hc] <;> intro h9 <;> simp at h9
  have hcz : z.choose [oR] = z.ch.foldl Eng.miss { z with ch := [oR], due := true } := if_neg hne
  rw [hcz]
  refine ⟨missAll_due _ _, ?_⟩
  have hmo : ∀ y : Eng, y.ch = [oR] → y.miss oR = y := fun y hy => if_pos (by unfold Eng.hasP; rw [hy]; rfl)
  have hmr : ∀ y : Eng, y.ch = [oR] → y.lost = [] → y.miss r = { y with lost := [(r.a, r.n)] } := fun y hy hl0 => by
    unfold Eng.miss
    have h1 : y.hasP r.a r.n = false := by
      unfold Eng.hasP
      rw [hy]
      show (oR.pk == r.a * 256 + r.n || false) = false
      rw [Bool.or_false]
      simpa using fun h9 : oR.pk = r.a * 256 + r.n => hr h9.symm
    rw [if_neg (by rw [h1]; decide)]
    unfold Eng.lose
    have h2 : y.isLost r.a r.n = false := by unfold Eng.isLost; rw [hl0]; rfl
    rw [if_neg (by rw [h2]; decide)]
    have h3 : lpos y r.a r.n = 0 := by unfold lpos; rw [hl0]; rfl
    rw [h3, hl0]; rfl
  have hl0 : z.lost = [] := by rw [hl.2, hlo]
  rw [hl.1]
  obtain ⟨y0, hy0⟩ : ∃ y0 : Eng, y0 = { z with ch := [oR], due := true } := ⟨_, rfl⟩
  have y1 : y0.ch = [oR] := by rw [hy0]
  have y2 : y0.lost = [] := by rw [hy0]; exact hl0
  rw [← hy0]
  rcases hc with hc | hc <;> rw [hc, List.foldl_cons, List.foldl_cons, List.foldl_nil]
  · rw [hmo y0 y1, hmr y0 y1 y2]
  · rw [hmr y0 y1 y2, hmo { y0 with lost := [(r.a, r.n)] } y1]
theorem tell_end1 (a n s x u t now : Nat) : tellL (one a n 1 s x u) 1 now (uP a n t 65535) = [] := by
  unfold tellL
  rw [if_pos (show (uP a n t 65535).m = 65535 from rfl)]
  refine List.filter_eq_nil_iff.2 fun e he => ?_
  unfold one at he
  split at he
  · cases he
  · rw [List.mem_singleton] at he
    subst he
    show ¬ (!(key a n 1 == key a n 1)) = true
    simp
def hP : List Pt := [⟨1, 0, 0, 0, 0, 0, 0⟩, ⟨2, 0, 1, 0, 0, 0, 96⟩, ⟨2, 0, 2, 0, 0, 0, 96⟩]
theorem tellP_is {e : Eng} (h : Met 96 96 e) (hhe : e.he = 0) (hrq : e.rq = []) (hd : e.due = true) (now : Nat) (L : List Rw) : e.tellP now L = (if now % 2 = 0 then hP else []) ++ e.upds L := by
  unfold Eng.tellP
  rw [hrq, List.append_nil, if_pos (Or.inl hd)]
  congr 1
  by_cases h2 : now % 2 = 0
  · rw [if_pos h2, if_pos h2, hhe]
    unfold Eng.heard
    rw [h.nb]; rfl
  · rw [if_neg h2, if_neg h2]
def mineP : Pt := ⟨3, 0, 0, 201326592, 24, 1, 65535⟩
theorem up1_own {e : Eng} (hi : e.id = 0) {row : Rw} (hr : row.a < 201326592) : e.up1 [row] oR = mineP := by
  unfold Eng.up1
  have h1 : [row].any (safeR oR.a oR.n oR.s oR.m) = false := by
    show (safeR 201326592 24 1 0 row || false) = false
    unfold safeR
    have : (row.a == 201326592) = false := by simp; omega
    rw [this]; rfl
  rw [h1, hi]; rfl
theorem upds_two {e : Eng} (hi : e.id = 0) (hl : e.lost = []) {pa pn s m : Nat} (hc : e.ch = [oR, ⟨pa, pn, 1, m, s⟩] ∨ e.ch = [⟨pa, pn, 1, m, s⟩, oR]) (k M : Nat) (hpa : pa < 201326592) (hM : M = if k ≤ m then m else 65535) : e.upds [⟨pa, pn, false, 0, 0, 0, 0, 0, s, k⟩] = [mineP, ⟨3, 0, 0, pa, pn, s, M⟩] ∨ e.upds [⟨pa, pn, false, 0, 0, 0, 0, 0, s, k⟩] = [⟨3, 0, 0, pa, pn, s, M⟩, mineP] := by
  have h1 : e.up1 [⟨pa, pn, false, 0, 0, 0, 0, 0, s, k⟩] ⟨pa, pn, 1, m, s⟩ = ⟨3, 0, 0, pa, pn, s, M⟩ := by
    unfold Eng.up1
    have h2 : [(⟨pa, pn, false, 0, 0, 0, 0, 0, s, k⟩ : Rw)].any (safeR pa pn s m) = decide (k ≤ m) := by
      show (safeR pa pn s m ⟨pa, pn, false, 0, 0, 0, 0, 0, s, k⟩ || false) = _
      unfold safeR
      rw [near_same]
      by_cases hk : k ≤ m
      · simp [hk]
      · simp [hk]; omega
    simp only [h2, hi, hM, decide_eq_true_eq]
  have h3 := up1_own hi (row := ⟨pa, pn, false, 0, 0, 0, 0, 0, s, k⟩) hpa
  unfold Eng.upds Eng.goneL
  rw [hl]
  rcases hc with hc | hc <;> rw [hc]
  · left
    show [e.up1 _ oR, e.up1 _ ⟨pa, pn, 1, m, s⟩] = _
    rw [h1, h3]
  · right
    show [e.up1 _ ⟨pa, pn, 1, m, s⟩, e.up1 _ oR] = _
    rw [h1, h3]
theorem upds_gone {e : Eng} (hi : e.id = 0) {pa pn : Nat} (hl : e.lost = [(pa, pn)]) (hc : e.ch = [oR]) (hpn : pn < 256) (hpa : pa < 201326592) (row : Rw) (hr : row.a < 201326592) : e.upds [row] = [⟨3, 0, 0, pa, pn, 0, 65535⟩, mineP] := by
  have h3 := up1_own hi hr
  unfold Eng.upds Eng.goneL
  rw [hl, hc]
  have h1 : e.hasP pa pn = false := by
    unfold Eng.hasP
    rw [hc]
    show (oR.pk == pa * 256 + pn || false) = false
    rw [Bool.or_false]
    have : oR.pk = 201326592 * 256 + 24 := rfl
    rw [this]; simp; omega
  have h2 : ([(pa, pn)].filter fun p => !e.hasP p.1 p.2) = [(pa, pn)] := List.filter_eq_self.2 fun p hp => by
    rw [List.mem_singleton] at hp
    subst hp
    simp [h1]
  rw [h2]
  show [goneP e.id (pa, pn), e.up1 [row] oR] = _
  rw [h3, hi]; rfl
structure TW (w1 wt : World) (z9 y : Nat) (yr : Array Value) (W : World) : Prop where
  b : Below w1.heap.size w1 W
  t : w1.heap.size ≤ wt.heap.size ∧ wt.heap.size ≤ W.heap.size
  g : z9 < wt.heap.size
  gc : ∀ o, W.cell? ⟨z9, o, none⟩ = wt.cell? ⟨z9, o, none⟩
  y : W.heap[y]? = some (.cells yr 36 (0, 0))
theorem TW.step {w1 wt : World} {g y : Nat} {yr : Array Value} {W W' : World} (h : TW w1 wt g y yr W) (B : Below W.heap.size W W') : TW w1 wt g y yr W' :=
  ⟨h.b.trans (B.mono h.b.size), ⟨h.t.1, Nat.le_trans h.t.2 B.size⟩, h.g, fun o => ((Ser.bcell B).1 g o (Nat.lt_of_lt_of_le h.g h.t.2)).trans (h.gc o), brow B h.y⟩
theorem TW.set {w1 wt : World} {g y : Nat} {yr : Array Value} {W : World} (h : TW w1 wt g y yr W) {b : Nat} {x : Array Value} (hb : wt.heap.size ≤ b) (hr : W.heap[b]? = some (.cells x 32 (0, 0))) (i : Nat) (v : Value) : TW w1 wt g y yr (W.setCell ⟨b, i, none⟩ v) := by
  have F : Fr (fun k => k = b) W (W.setCell ⟨b, i, none⟩ v) := Fr.grown (grown_setCell W b i v) (fun k e => (Option.some.inj e).symm)
  have hg := h.g
  obtain ⟨ht1, ht2⟩ := h.t
  refine ⟨h.b.trans (F.below h.b.size (fun k e => by rw [e]; exact Nat.le_trans ht1 hb)), ⟨ht1, Nat.le_trans ht2 F.size⟩, hg, fun o => (World.cell?_of_block (a := ⟨g, o, none⟩) (F.block g (Nat.lt_of_lt_of_le hg ht2) (fun e9 => absurd hg (by rw [e9]; exact Nat.not_lt.2 hb)))).trans (h.gc o), F.row h.y (row_ne h.y hr (by decide))⟩
theorem TW.set7 {w1 wt : World} {g y : Nat} {yr : Array Value} {W : World} (h : TW w1 wt g y yr W) {b : Nat} {x : Array Value} (hb : wt.heap.size ≤ b) (hr : W.heap[b]? = some (.cells x 32 (0, 0))) (y0 y1 y2 y3 y4 y5 y6 : Value) : TW w1 wt g y yr (((((((W.setCell ⟨b, 0, none⟩ y0).setCell ⟨b, 1, none⟩ y1).setCell ⟨b, 2, none⟩ y2).setCell ⟨b, 3, none⟩ y3).setCell ⟨b, 4, none⟩ y4).setCell ⟨b, 5, none⟩ y5).setCell ⟨b, 6, none⟩ y6) := by
  have F := fr7 W b y0 y1 y2 y3 y4 y5 y6
  have hg := h.g
  obtain ⟨ht1, ht2⟩ := h.t
  refine ⟨h.b.trans (F.below h.b.size (fun k e => by rw [e]; exact Nat.le_trans ht1 hb)), ⟨ht1, Nat.le_trans ht2 F.size⟩, hg, fun o => (World.cell?_of_block (a := ⟨g, o, none⟩) (F.block g (Nat.lt_of_lt_of_le hg ht2) (fun e9 => absurd hg (by rw [e9]; exact Nat.not_lt.2 hb)))).trans (h.gc o), F.row h.y (row_ne h.y hr (by decide))⟩
theorem tell_lw0 {w W : World} {q : Nat} {e : Eng} {K : Kept} (h : LW w W q e K) (hhe : e.he ≤ 900000) (hll : e.lost.length ≤ 400) (now : Nat) (AR : Option Addr) (kr cr : Nat) (L : List Rw) (hk : kr = L.length) (hkl : kr ≤ 1000) (hsr : GSl 10 Rw.cl W AR L) (hAR : AR = none ∨ ∃ z x, AR = some ⟨z, 0, none⟩ ∧ (z, x, 62) ∈ K) (hne : e.tellP now L ≠ []) :
    Calls Tryz.prog 24 #[.pointer (some ⟨q, 0, none⟩), .int .u64 (now : Int), .slice AR kr cr] W fun en w' => ∃ g c, en = .returned (.tuple #[.agg #[.int .i64 (e.id : Int), .slice (some ⟨g, 0, none⟩) (e.tellP now L).length c], .bool true]) ∧ (e.tellP now L).length ≤ c ∧ g < w'.heap.size ∧ (∀ j (hj : j < (e.tellP now L).length), ∀ i, i < 7 → w'.cell? ⟨g, j * 7 + i, none⟩ = (Pt.cl (e.tellP now L)[j])[i]?) ∧ LW w w' q (e.tellE now) K := by
  obtain ⟨m, hE, hK⟩ := h.ex
  refine (tellp_any W _ q e m hE h.ok hhe hll now AR kr cr L hk hkl hsr (fun b' o e9 => ?_)).mono ?_
  · rcases hAR with h0 | ⟨z, x, h0, h1⟩
    · rw [h0] at e9; cases e9
    · rw [h0] at e9
      injection e9 with e9
      injection e9 with e1
      subst e1
      obtain ⟨k1, k2, k3⟩ := hK _ h1
      exact ⟨k3, _, _, k2, k1⟩
  rintro en w' ⟨A, n, c, rfl, hn, hO, ⟨m', hE', F, X, -⟩, ok'⟩
  obtain ⟨A3, c3, hv3, hle, hc⟩ := hO.form (fun _ => rfl)
  injection hv3 with e1 e2 e3
  subst e1 e2 e3
  have hpos : 0 < (e.tellP now L).length := Nat.pos_of_ne_zero fun h9 => hne (List.eq_nil_of_length_eq_zero h9)
  obtain ⟨g, rfl, -, hg, -⟩ := hc 0 hpos
  refine ⟨g, c, by rw [if_neg hne, decide_eq_true hne], hle, hg, fun j hj i hi => ?_, LW.to h.b hK hE' F X ok'⟩
  obtain ⟨b, e9, -, -, h9⟩ := hc j hj
  injection e9 with e9
  injection e9 with e9
  subst e9
  exact h9 i hi
end Go.Proofs.YtjbogjbopgcbhaaGreatDoor.Eg
