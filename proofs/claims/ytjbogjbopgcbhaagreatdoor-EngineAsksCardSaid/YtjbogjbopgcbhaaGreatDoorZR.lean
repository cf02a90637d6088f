/- A router: somebody asks for a newer serial. A router: somebody asks for a newer serial of what isn't its own. A law's router: what it tells, and what is asked of it. -/
import Derived.Test.YtjbogjbopgcbhaaGreatDoorZO
import Derived.Test.YtjbogjbopgcbhaaGreatDoorZQ
namespace Go.Proofs.YtjbogjbopgcbhaaGreatDoor.Eg
open Pre Ser Rts
open Go.Proofs.YtjbogjbopgcbhaaGreatDoor.Src (row1 row2 Mk SrcAt)
open Go.Proofs.YtjbogjbopgcbhaaGreatDoor.Lk (LkAt)
open Go.ChangeShapes Go.WideShapes Go.ChangeAt Go.RowKit
set_option maxRecDepth 8000
set_option linter.unusedVariables false
set_option linter.unusedSimpArgs false

open Go.Proofs.YtjbogjbopgcbhaaGreatDoor.Src (pv mv pA pN)
set_option linter.unusedSimpArgs false
theorem modify_set {α : Type} (f : α → α) : ∀ (l : List α) (i : Nat) (h : i < l.length), l.modify i f = l.set i (f l[i])
  | x :: l, 0, _ => by simp
  | x :: l, i + 1, h => by
    have := modify_set f l i (by simpa using h)
    simp [this]
theorem flat_set (g : Hm) (s : Nat) : ∀ (l : List Hm) (i : Nat) (h : i < l.length), (l.flatMap Hm.cl).set (i * 3 + 2) (.int .u16 (s : Int)) = (l.set i { l[i] with s := s }).flatMap Hm.cl
  | x :: l, 0, _ => by simp [Hm.cl]
  | x :: l, i + 1, h => by
    have ih := flat_set g s l i (by simpa using h)
    have e1 : (i + 1) * 3 + 2 = (i * 3 + 2) + 1 + 1 + 1 := by omega
    simp only [List.flatMap_cons, List.set_cons_succ, List.getElem_cons_succ]
    rw [← ih, e1]
    simp [Hm.cl]
theorem own_val {lo : Nat} {w : World} {q : Nat} {e : Eng} {m : Mem} (h : EngAt lo w q e m) {b : Nat} (hb : m.vo.ownBlock = some b) : ∃ c, m.vo = .slice (some ⟨b, 0, none⟩) e.own.length c := by
  obtain ⟨A, c, hv, -, -, hA⟩ := gsl_of h.p.own (fun _ => rfl)
  rw [hv] at hb
  cases A with
  | none => cases hb
  | some a =>
    rcases h.p.own.2 with ⟨h8, -⟩ | ⟨g, cap, cur, h8, -⟩
    · rw [hv] at h8; injection h8 with h8; cases h8
    · rw [hv] at h8
      injection h8 with h8 _ _
      injection h8 with h8
      subst h8
      have h9 : g = b := Option.some.inj hb
      subst h9
      exact ⟨c, hv⟩
theorem own_lt {lo : Nat} {w : World} {q : Nat} {e : Eng} {m : Mem} (h : EngAt lo w q e m) {b : Nat} (hb : m.vo.ownBlock = some b) : b < w.heap.size := by
  obtain ⟨-, cur, hg⟩ := h.p.own.lt hb
  exact (Array.getElem?_eq_some_iff.1 hg).1
theorem own_froz {lo : Nat} {w : World} {q : Nat} {e : Eng} {m : Mem} (h : EngAt lo w q e m) {b : Nat} (hb : m.vo.ownBlock = some b) (j : Nat) : w.frozen? ⟨b, j, none⟩ = false := by
  obtain ⟨-, cur, hg⟩ := h.p.own.lt hb
  exact frozen_of_row w b j _ 134 hg
theorem own_cell {lo : Nat} {w : World} {q : Nat} {e : Eng} {m : Mem} (h : EngAt lo w q e m) {b i : Nat} (hb : m.vo.ownBlock = some b) (hi : i < e.own.length) : w.cell? ⟨b, i * 3 + 2, none⟩ = some (.int .u16 ((e.own[i]).s : Int)) := by
  obtain ⟨c, hv⟩ := own_val h hb
  obtain ⟨A, c', hv', -, hc⟩ := h.p.own.form (fun _ => rfl)
  obtain ⟨b', hA, -, -, hcell⟩ := hc i hi
  rw [hv] at hv'
  injection hv' with h1 _ _
  rw [hA] at h1
  injection h1 with h1
  injection h1 with h1
  subst h1
  exact hcell 2 (by decide)
/-- A serial of one's own is another one. -/
theorem EngAt.ownS {lo : Nat} {w : World} {q : Nat} {e : Eng} {m : Mem} (h : EngAt lo w q e m) {b i : Nat} (hb : m.vo.ownBlock = some b) (hi : i < e.own.length) (s : Nat) : ES lo w q m { e with own := e.own.set i { e.own[i] with s := s } } (w.setCell ⟨b, i * 3 + 2, none⟩ (.int .u16 (s : Int))) := by
  obtain ⟨c, hv⟩ := own_val h hb
  have ho := h.p.own
  rw [hv] at ho
  have hst := (World.ownsRow.stored ho (i * 3 + 2) (.int .u16 (s : Int)))
  have F : Fr (fun k => m.vo.ownBlock = some k) w (w.setCell ⟨b, i * 3 + 2, none⟩ (.int .u16 (s : Int))) := Fr.grown hst.2 (fun k e9 => by rw [hb]; exact e9)
  have hO : GOwn 134 3 Hm.cl (w.setCell ⟨b, i * 3 + 2, none⟩ (.int .u16 (s : Int))) lo m.vo (e.own.set i { e.own[i] with s := s }) := by
    have h1 := hst.1
    rw [flat_set e.own[i] s e.own i hi] at h1
    unfold GOwn
    rw [List.length_set, hv]
    exact h1
  refine ⟨m, ⟨F.row h.row h.apart.2.2.2.1, h.le, h.p.own' F hO⟩, Ef.frm F h.los (fun k hk => (h.p.own.lt hk).1) (fun k hk => .inr (.inr (.inr (.inr (.inl hk))))), fun k hk => Or.inl hk, rfl⟩
set_option maxHeartbeats 4000000 in
theorem req_own (w : World) (lo q : Nat) (e : Eng) (m : Mem) (h : EngAt lo w q e m) (hok : e.Ok) (x : Pt) (hx : x.Ok) (ho : e.isOwn x.a x.l = true) :
    Calls Tryz.prog 43 #[.pointer (some ⟨q, 0, none⟩), .agg #[.int .u8 (x.k : Int), .int .u64 (x.n : Int), .int .i64 (x.d : Int), .int .u32 (x.a : Int), .int .u8 (x.l : Int), .int .u16 (x.s : Int), .int .u16 (x.m : Int)]] w fun en w' => en = .returned (.tuple #[]) ∧ ES lo w q m (e.req x) w' := by
  have hi : e.own.findIdx (Hm.is x.a x.l) < e.own.length := List.findIdx_lt_length.2 (List.any_eq_true.1 ho)
  have hgi : gidx (Hm.is x.a x.l) e.own = ((e.own.findIdx (Hm.is x.a x.l) : Nat) : Int) := by
    unfold gidx
    exact if_pos ho
  have hrq : e.req x = { e with own := e.own.set (e.own.findIdx (Hm.is x.a x.l)) ((e.own[e.own.findIdx (Hm.is x.a x.l)]).next x.s), due := true } := by
    unfold Eng.req
    rw [if_pos ho, modify_set _ _ _ hi]
  obtain ⟨i, hid⟩ : ∃ i, i = e.own.findIdx (Hm.is x.a x.l) := ⟨_, rfl⟩
  rw [← hid] at hgi
  have hil : i < e.own.length := by rw [hid]; exact hi
  obtain ⟨g, hg⟩ : ∃ g, g = e.own[i] := ⟨_, rfl⟩
  have hrq2 : e.req x = { e with own := e.own.set i (g.next x.s), due := true } := by
    rw [hrq, hg]
    simp only [hid]
  have HREQ : Hid ((newer (x.s : Int) (g.s : Int) = true → e.req x = { e with own := e.own.set i { e.own[i] with s := (g.s + 1) % 65536 }, due := true }) ∧ (newer (x.s : Int) (g.s : Int) = false → e.req x = { e with due := true })) := Lib.hid ⟨fun h9 => by
    rw [hrq2]
    have : g.next x.s = { g with s := (g.s + 1) % 65536 } := if_pos h9
    rw [this, hg], fun h9 => by
    rw [hrq2]
    have : g.next x.s = g := if_neg (by rw [h9]; decide)
    rw [this, hg, List.set_getElem_self]⟩
  obtain ⟨A, c, hv, -, hs, hA⟩ := gsl_of h.p.own (fun _ => rfl)
  obtain ⟨b, o, rfl, -, -⟩ := hs i hil
  obtain ⟨hvb, rfl⟩ := hA b o rfl
  have BA := (Below.refl w.heap.size w).alloc (Nat.le_refl _) (.cells #[.int .u8 (x.k : Int), .int .u64 (x.n : Int), .int .i64 (x.d : Int), .int .u32 (x.a : Int), .int .u8 (x.l : Int), .int .u16 (x.s : Int), .int .u16 (x.m : Int)] 32)
  have r0 := heap_alloc_new w (.cells #[.int .u8 (x.k : Int), .int .u64 (x.n : Int), .int .i64 (x.d : Int), .int .u32 (x.a : Int), .int .u8 (x.l : Int), .int .u16 (x.s : Int), .int .u16 (x.m : Int)] 32)
  have HHM := Lib.hid (home_some _ lo q e m (h.step BA) x.a x.l (by have := hok.owl; omega) i b hvb hgi hil)
  have HE0 := Lib.hid h
  have HE1 := Lib.hid (h.step BA)
  have HVB := Lib.hid hvb
  have HIL := Lib.hid hil
  have HGI := Lib.hid hg.symm
  have HB1 := Lib.hid BA
  have HX1 := Lib.hid r0
  obtain ⟨k0, k1, k2, k3, k4, k5, k6, -⟩ := row7 r0
  have hxl := (Array.getElem?_eq_some_iff.1 r0).1
  clear h hok hx ho hi hgi hrq hid hrq2 hv hs hA BA r0 hvb hg
  go_enter Tryz.func43, Tryz.ntmps43
  go_upto_region 3 with (go_at_call 74; (with_reducible refine HHM.out.mono ?_); rintro en w3 ⟨rfl, hB⟩; have HE2 := Lib.hid (HE1.out.step hB); have HX := Lib.hid (brow hB HX1.out); have HB2 := Lib.hid (HB1.out.trans (hB.mono HB1.out.size)); clear hB HE1 HX1 HB1 HHM)
  clear k0 k1 k2 k3 k4 k5 k6 hxl
  have HO2 := Lib.hid (own_cell HE2.out HVB.out HIL.out)
  rw [HGI.out] at HO2
  have HB := Lib.hid (own_lt HE2.out HVB.out)
  refine wp_region_noPanic ?_
  refine wp_region_held_drew (S := fun y9 : World => Below w3.heap.size w3 y9) (by kernel_rfl) ((Below.refl _ _).drew) (fun hHeld => ?_)
  generalize w3.drew = wd at *
  refine wpAnyH_take (i := 0) (oi := { dst := some 13, op := Op.fieldAddr 32 (Operand.tmp 3) 4, type := 0, pos := "engine.go:146", after := #[], guard := none }) (v := .pointer (some ⟨w.heap.size, 5, none⟩)) rfl (by kernel_rfl) (by kernel_rfl) (by kernel_rfl) (fun _ _ _ h => h) (Or.inl ⟨by rfl, fun w hSw => by go_simp⟩) (by assumption) ?_
  try simp only [Act.put, List.setIfInBounds_toArray, List.set_cons_zero, List.set_cons_succ]
  refine wpAnyH_take (i := 1) (oi := { dst := some 14, op := Op.load 22 (Operand.tmp 13), type := 22, pos := "engine.go:146", after := #[{ on := 0, ground := Ground.data }], guard := none }) (v := .int .u16 (x.s : Int)) rfl (by kernel_rfl) (by kernel_rfl) (by kernel_rfl) (fun _ _ _ h => h) (Or.inl ⟨by rfl, fun w hSw => by obtain ⟨k0, k1, k2, k3, k4, k5, k6, -⟩ := row7 (brow hSw HX.out); have hxl := (Array.getElem?_eq_some_iff.1 (brow hSw HX.out)).1; go_simp⟩) (by assumption) ?_
  try simp only [Act.put, List.setIfInBounds_toArray, List.set_cons_zero, List.set_cons_succ]
  refine wpAnyH_take (i := 2) (oi := { dst := some 15, op := Op.move (Operand.tmp 4), type := 130, pos := "engine.go:146", after := #[], guard := none }) (v := .pointer (some ⟨b, i * 3, none⟩)) rfl (by kernel_rfl) (by kernel_rfl) (by kernel_rfl) (fun _ _ _ h => h) (Or.inl ⟨by rfl, fun w hSw => by go_simp⟩) (by assumption) ?_
  try simp only [Act.put, List.setIfInBounds_toArray, List.set_cons_zero, List.set_cons_succ]
  refine wpAnyH_take (i := 3) (oi := { dst := some 16, op := Op.nilCheck (Operand.tmp 15), type := 0, pos := "engine.go:146", after := #[{ on := 2, ground := Ground.data }], guard := none }) (v := .pointer (some ⟨b, i * 3, none⟩)) rfl (by kernel_rfl) (by kernel_rfl) (by kernel_rfl) (fun _ _ _ h => h) (Or.inl ⟨by rfl, fun w hSw => by go_simp⟩) (by assumption) ?_
  try simp only [Act.put, List.setIfInBounds_toArray, List.set_cons_zero, List.set_cons_succ]
  refine wpAnyH_take (i := 4) (oi := { dst := some 17, op := Op.fieldAddr 134 (Operand.tmp 16) 1, type := 0, pos := "engine.go:146", after := #[{ on := 3, ground := Ground.data }], guard := none }) (v := .pointer (some ⟨b, i * 3 + 2, none⟩)) rfl (by kernel_rfl) (by kernel_rfl) (by kernel_rfl) (fun _ _ _ h => h) (Or.inl ⟨by rfl, fun w hSw => by go_simp⟩) (by assumption) ?_
  try simp only [Act.put, List.setIfInBounds_toArray, List.set_cons_zero, List.set_cons_succ]
  refine wpAnyH_take (i := 5) (oi := { dst := some 18, op := Op.load 22 (Operand.tmp 17), type := 22, pos := "engine.go:146", after := #[{ on := 4, ground := Ground.data }], guard := none }) (v := .int .u16 (g.s : Int)) rfl (by kernel_rfl) (by kernel_rfl) (by kernel_rfl) (fun _ _ _ h => h) (Or.inl ⟨by rfl, fun w hSw => by have co := ((Ser.bcell hSw).1 b (i * 3 + 2) HB.out).trans HO2.out; have hbl := Nat.lt_of_lt_of_le HB.out hSw.size; go_simp⟩) (by assumption) ?_
  try simp only [Act.put, List.setIfInBounds_toArray, List.set_cons_zero, List.set_cons_succ]
  refine wpAnyH_ready (rs := [6]) (by kernel_rfl) (by simp) ?_
  refine (AllReadyH.cons (o := { dst := some 19, op := Op.call { callee := Callee.value (Operand.func 83), args := #[Operand.tmp 14, Operand.tmp 18], argTypes := #[22, 22] }, type := 4, pos := "engine.go:146", after := #[{ on := 1, ground := Ground.data }, { on := 5, ground := Ground.data }], guard := none }) rfl (fun K hK => ?_) AllReadyH.nil)
  go_simp
  with_reducible refine (newer_any (x.s : Int) (g.s : Int) wd).mono ?_
  rintro en wd2 ⟨rfl, rfl⟩
  refine hK.out _ _ (hHeld) (fun hHeld2 => ?_)
  clear hK K hHeld
  have hHeld := hHeld2
  clear hHeld2
  try simp only [Act.put, List.setIfInBounds_toArray, List.set_cons_zero, List.set_cons_succ]
  refine wpAnyH_done (by kernel_rfl) ?_ _
  try unfold NoPanic
  have HD := Lib.hid hHeld
  clear hHeld
  obtain ⟨bw, hbw⟩ : ∃ bw, bw = newer (x.s : Int) (g.s : Int) := ⟨_, rfl⟩
  rw [← hbw]
  have HBW := Lib.hid hbw
  have HE3 := Lib.hid (HE2.out.step HD.out)
  have HT := Lib.hid (HB2.out.trans (HD.out.mono HB2.out.size))
  clear hbw HD
  cases bw with
  | true =>
    have co := own_cell HE3.out HVB.out HIL.out
    rw [HGI.out] at co
    have cf := own_froz HE3.out HVB.out (i * 3 + 2)
    have cb := own_lt HE3.out HVB.out
    have HS := Lib.hid (HE3.out.ownS HVB.out HIL.out ((g.s + 1) % 65536))
    have hcast : (((g.s + 1) % 65536 : Nat) : Int) = ((g.s : Int) + 1) % 65536 := by omega
    rw [hcast] at HS
    have HREQ2 := Lib.hid (HREQ.out.1 HBW.out.symm)
    clear hcast HBW HREQ
    go_upto_region 5 with (go_at_call 84; (with_reducible refine (next_any (g.s : Int) 1 _).mono ?_); rintro en w4 ⟨rfl, rfl⟩)
    clear co cf cb
    generalize World.setCell _ _ _ = w5 at *
    obtain ⟨m5, hE5, F5, X5, l5⟩ := HS.out
    have c11 := hE5.ec.c11
    have f11 := hE5.ec.fz 11
    have hq5 := hE5.lt
    have HD5 := Lib.hid (EngAt.put hE5.row hE5.le (e' := { { e with own := e.own.set i { e.own[i] with s := (g.s + 1) % 65536 } } with due := true }) (m' := m5) (hE5.p.nums rfl) 11 (.bool true) rfl)
    have HF5 := Lib.hid (Ef.trans (Ef.trans (Ef.of (X := m.X q) HT.out HE0.out.los) F5 (fun k hk => Or.inl hk)) (Ef.frm (X := fun k => k = q) (Fr.grown (grown_setCell _ q 11 (.bool true)) (fun k e => (Option.some.inj e).symm)) hE5.los (fun k hk => hk ▸ hE5.le) (fun k h => h)) (fun k hk => by
      rcases X5 q (Or.inl rfl) with h1 | h1
      · exact Or.inl (hk ▸ h1)
      · exact Or.inl (Or.inl hk)))
    have HX5 := Lib.hid (And.intro X5 l5)
    clear hE5 F5 X5 l5
    go_wp2
    exact bodyPost_ret (v := .tuple #[]) (by simp [results, Tryz.results43, go_sem]) rfl ⟨rfl, m5, by rw [HREQ2.out]; exact HD5.out, HF5.out, fun k hk => (HX5.out.1 k hk).imp (fun h => h) (fun h => Nat.le_trans HT.out.size h), HX5.out.2⟩
  | false =>
    have HS := Lib.hid (ES.of HE3.out (Below.refl wd.heap.size wd))
    have HREQ2 := Lib.hid (HREQ.out.2 HBW.out.symm)
    clear HBW HREQ
    go_upto_region 5 with (fail)
    obtain ⟨m5, hE5, F5, X5, l5⟩ := HS.out
    have c11 := hE5.ec.c11
    have f11 := hE5.ec.fz 11
    have hq5 := hE5.lt
    have HD5 := Lib.hid (EngAt.put hE5.row hE5.le (e' := { e with due := true }) (m' := m5) (hE5.p.nums rfl) 11 (.bool true) rfl)
    have HF5 := Lib.hid (Ef.trans (Ef.trans (Ef.of (X := m.X q) HT.out HE0.out.los) F5 (fun k hk => Or.inl hk)) (Ef.frm (X := fun k => k = q) (Fr.grown (grown_setCell _ q 11 (.bool true)) (fun k e => (Option.some.inj e).symm)) hE5.los (fun k hk => hk ▸ hE5.le) (fun k h => h)) (fun k hk => by
      rcases X5 q (Or.inl rfl) with h1 | h1
      · exact Or.inl (hk ▸ h1)
      · exact Or.inl (Or.inl hk)))
    have HX5 := Lib.hid (And.intro X5 l5)
    clear hE5 F5 X5 l5
    go_wp2
    exact bodyPost_ret (v := .tuple #[]) (by simp [results, Tryz.results43, go_sem]) rfl ⟨rfl, m5, by rw [HREQ2.out]; exact HD5.out, HF5.out, fun k hk => (HX5.out.1 k hk).imp (fun h => h) (fun h => Nat.le_trans HT.out.size h), HX5.out.2⟩
end Go.Proofs.YtjbogjbopgcbhaaGreatDoor.Eg
namespace Go.Proofs.YtjbogjbopgcbhaaGreatDoor.Eg
open Pre Ser Rts
open Go.Proofs.YtjbogjbopgcbhaaGreatDoor.Src (row1 row2 Mk SrcAt)
open Go.Proofs.YtjbogjbopgcbhaaGreatDoor.Lk (LkAt)
open Go.ChangeShapes Go.WideShapes Go.ChangeAt Go.RowKit
set_option maxRecDepth 8000
set_option linter.unusedVariables false
set_option linter.unusedSimpArgs false

open Go.Proofs.YtjbogjbopgcbhaaGreatDoor.Src (pv mv pA pN)
set_option linter.unusedSimpArgs false
theorem orNewer_any (a b : Int) (w : World) : Calls Tryz.prog 85 #[.int .u16 a, .int .u16 b] w fun en w' => en = .returned (.bool (a == b || newer a b)) ∧ w = w' := by
  by_cases h : a = b
  · subst h
    have h1 : (a == a) = true := by simp
    rw [h1, Bool.true_or]
    go_enter Tryz.func85, Tryz.ntmps85
    go_wp2
    go_ret
    exact ⟨rfl, rfl⟩
  · have h1 : (a == b) = false := by simpa using h
    rw [h1, Bool.false_or]
    have HN := Lib.hid (fun w => newer_any a b w)
    generalize newer a b = x at *
    clear h
    go_enter Tryz.func85, Tryz.ntmps85
    go_wp2_with (go_at_call 83; (with_reducible refine (HN.out _).mono ?_); rintro en w' ⟨rfl, rfl⟩)
    go_ret
    exact ⟨rfl, rfl⟩
theorem knows_look {e : Eng} (hok : e.Ok) (a n s : Nat) : e.knows a n s = match look e.ch a n with
    | some r => (r.s == s || newer (r.s : Int) (s : Int))
    | none => false := by
  unfold Eng.knows
  cases hl : look e.ch a n with
  | none => exact List.any_eq_false.2 fun r hr => by simp [look_none hl r hr]
  | some r =>
    obtain ⟨h1, h2⟩ := look_mem hl
    show (e.ch.any fun r => r.pk == a * 256 + n && (r.s == s || newer (r.s : Int) (s : Int))) = (r.s == s || newer (r.s : Int) (s : Int))
    cases hk : (r.s == s || newer (r.s : Int) (s : Int)) with
    | true => exact List.any_eq_true.2 ⟨r, h1, by rw [h2, hk]; simp⟩
    | false =>
      refine List.any_eq_false.2 fun r2 hr2 => ?_
      by_cases h3 : r2.pk = a * 256 + n
      · have h4 := look_eq (GUp.ne hok.chu) hr2 h3
        rw [hl] at h4
        injection h4 with h4
        subst h4
        rw [hk]; simp
      · simp [h3]
set_option maxHeartbeats 4000000 in
theorem req_other (w : World) (lo q : Nat) (e : Eng) (m : Mem) (h : EngAt lo w q e m) (hok : e.Ok) (x : Pt) (hx : x.Ok) (ho : e.isOwn x.a x.l = false) :
    Calls Tryz.prog 43 #[.pointer (some ⟨q, 0, none⟩), .agg #[.int .u8 (x.k : Int), .int .u64 (x.n : Int), .int .i64 (x.d : Int), .int .u32 (x.a : Int), .int .u8 (x.l : Int), .int .u16 (x.s : Int), .int .u16 (x.m : Int)]] w fun en w' => en = .returned (.tuple #[]) ∧ ES lo w q m (e.req x) w' := by
  have hrq : e.req x = if e.knows x.a x.l x.s then { e with due := true } else if x.n = 0 then e else e.ask x.a x.l x.s (x.n - 1) := by
    unfold Eng.req
    rw [if_neg (by rw [ho]; decide)]
  rw [knows_look hok] at hrq
  have BA := (Below.refl w.heap.size w).alloc (Nat.le_refl _) (.cells #[.int .u8 (x.k : Int), .int .u64 (x.n : Int), .int .i64 (x.d : Int), .int .u32 (x.a : Int), .int .u8 (x.l : Int), .int .u16 (x.s : Int), .int .u16 (x.m : Int)] 32)
  have r0 := heap_alloc_new w (.cells #[.int .u8 (x.k : Int), .int .u64 (x.n : Int), .int .i64 (x.d : Int), .int .u32 (x.a : Int), .int .u8 (x.l : Int), .int .u16 (x.s : Int), .int .u16 (x.m : Int)] 32)
  have HHM := Lib.hid (home_none _ lo q e m (h.step BA) x.a x.l (by have := hok.owl; omega) ho)
  have HE0 := Lib.hid h
  have HE1 := Lib.hid (h.step BA)
  have HB1 := Lib.hid BA
  have HX1 := Lib.hid r0
  have HOK := Lib.hid hok
  have HXO := Lib.hid hx
  have HNX : Hid (¬ m.X q w.heap.size) := Lib.hid fun h9 => absurd (h.x_lt h9).2.1 (Nat.lt_irrefl _)
  obtain ⟨k0, k1, k2, k3, k4, k5, k6, -⟩ := row7 r0
  have hxl := (Array.getElem?_eq_some_iff.1 r0).1
  have hll := hx.l
  cases hl : look e.ch x.a x.l with
  | none =>
    rw [hl] at hrq
    have HREQ : Hid ((x.n = 0 → e.req x = e) ∧ (¬ x.n = 0 → e.req x = e.ask x.a x.l x.s (x.n - 1))) := Lib.hid ⟨fun h9 => by rw [hrq]; simp [h9], fun h9 => by rw [hrq]; simp [h9]⟩
    have HRT := Lib.hid (fun W (hE : EngAt lo W q e m) => route_none W lo q e m hE hok x.a x.l hll (look_none hl))
    clear h hok hx ho hrq hl BA r0 hll
    go_enter Tryz.func43, Tryz.ntmps43
    go_upto_region 7 with (first
      | (go_at_call 74; (with_reducible refine HHM.out.mono ?_); rintro en w3 ⟨rfl, hB⟩; have HE2 := Lib.hid (HE1.out.step hB); have HX := Lib.hid (brow hB HX1.out); have HB2 := Lib.hid (HB1.out.trans (hB.mono HB1.out.size)); obtain ⟨k0, k1, k2, k3, k4, k5, k6, -⟩ := row7 (brow hB HX1.out); have hxl := (Array.getElem?_eq_some_iff.1 (brow hB HX1.out)).1; clear hB HE1 HX1 HB1 HHM)
      | (go_at_call 18; (with_reducible refine (HRT.out _ HE2.out).mono ?_); rintro en w4 ⟨rfl, hB⟩; have HE4 := Lib.hid (HE2.out.step hB); have HX4 := Lib.hid (brow hB HX.out); have HB4 := Lib.hid (HB2.out.trans (hB.mono HB2.out.size)); clear hB HE2 HX HB2))
    have BA4 := (Below.refl w4.heap.size w4).alloc (Nat.le_refl _) (.cells #[.int .u32 0, .int .u8 0, .int .i64 0, .int .u16 0, .int .u16 0] 40)
    have HE := Lib.hid (HE4.out.step BA4)
    have HX := Lib.hid (brow BA4 HX4.out)
    have HT := Lib.hid (HB4.out.trans (BA4.mono HB4.out.size))
    have HY := Lib.hid (heap_alloc_new w4 (.cells #[.int .u32 0, .int .u8 0, .int .i64 0, .int .u16 0, .int .u16 0] 40))
    clear BA4 HE4 HX4 HB4
    generalize w4.alloc _ = w5 at *
    generalize w4.heap.size = yb at *
    obtain ⟨x0, x1, x2, x3, x4, x5, x6, -⟩ := row7 HX.out
    have hxl := (Array.getElem?_eq_some_iff.1 HX.out).1
    by_cases hn : x.n = 0
    · have hn1 : ((x.n : Int) == 0) = true := by simp; omega
      have hE := HREQ.out.1 hn
      have HR := Lib.hid hE
      clear hE hn
      go_wp2
      exact bodyPost_end (v := .tuple #[]) (by simp [results, Tryz.results43, go_sem]) rfl ⟨rfl, by rw [HR.out]; exact ES.of HE0.out HT.out⟩
    · have hn1 : ((x.n : Int) == 0) = false := by simp; omega
      have HW1 : Hid (IntKind.u64.wrap ((x.n : Int) - 1) = (x.n : Int) - 1) := Lib.hid (by rw [IntKind.wrap_u64]; have := HXO.out.n; omega)
      have HASK : Hid (∀ W, EngAt lo W q e m → Below w.heap.size w W → Calls Tryz.prog 86 #[.pointer (some ⟨q, 10, none⟩), .agg #[.int .u32 (x.a : Int), .int .u8 (x.l : Int)], .int .u16 (x.s : Int), .int .u64 ((x.n : Int) - 1)] W fun en w' => en = .returned (.tuple #[]) ∧ ES lo w q m (e.req x) w' ∧ Ef lo (m.X q) W w') := Lib.hid fun W hE B => by
        have hc := ask_any W lo q e m hE HOK.out x.a x.l x.s (x.n - 1)
        have e9 : ((x.n - 1 : Nat) : Int) = (x.n : Int) - 1 := by omega
        rw [e9] at hc
        refine hc.mono ?_
        rintro en w' ⟨rfl, hES⟩
        rw [HREQ.out.2 hn]
        exact ⟨rfl, ES.trans (m1 := m) (Ef.of B HE0.out.los) (fun k hk => Or.inl hk) B.size hES, hES.choose_spec.2.1⟩
      clear hn
      go_upto_region 10 with (fail)
      clear x0 x1 x2 x3 x4 x5 x6 hxl hn1
      have HED := Lib.hid (HE.out.step ((Below.refl w5.heap.size w5).drew))
      have HTD := Lib.hid (HT.out.trans (((Below.refl w5.heap.size w5).drew).mono HT.out.size))
      refine wp_region_noPanic ?_
      refine wp_region_held_drew (S := fun y9 : World => Ef lo (m.X q) w5 y9) (by kernel_rfl) (Ef.of ((Below.refl _ _).drew) HE.out.los) (fun hHeld => ?_)
      generalize w5.drew = wd at *
      refine wpAnyH_take (i := 0) (oi := { dst := some 54, op := Op.move (Operand.tmp 0), type := 24, pos := "engine.go:157", after := #[], guard := none }) (v := .pointer (some ⟨q, 0, none⟩)) rfl (by kernel_rfl) (by kernel_rfl) (by kernel_rfl) (fun _ _ _ h => h) (Or.inl ⟨by rfl, fun w hSw => by go_simp⟩) (by assumption) ?_
      try simp only [Act.put, List.setIfInBounds_toArray, List.set_cons_zero, List.set_cons_succ]
      refine wpAnyH_take (i := 1) (oi := { dst := some 55, op := Op.nilCheck (Operand.tmp 54), type := 0, pos := "engine.go:157", after := #[{ on := 0, ground := Ground.data }], guard := none }) (v := .pointer (some ⟨q, 0, none⟩)) rfl (by kernel_rfl) (by kernel_rfl) (by kernel_rfl) (fun _ _ _ h => h) (Or.inl ⟨by rfl, fun w hSw => by go_simp⟩) (by assumption) ?_
      try simp only [Act.put, List.setIfInBounds_toArray, List.set_cons_zero, List.set_cons_succ]
      refine wpAnyH_take (i := 2) (oi := { dst := some 56, op := Op.fieldAddr 95 (Operand.tmp 55) 7, type := 0, pos := "engine.go:157", after := #[{ on := 1, ground := Ground.data }], guard := none }) (v := .pointer (some ⟨q, 10, none⟩)) rfl (by kernel_rfl) (by kernel_rfl) (by kernel_rfl) (fun _ _ _ h => h) (Or.inl ⟨by rfl, fun w hSw => by go_simp⟩) (by assumption) ?_
      try simp only [Act.put, List.setIfInBounds_toArray, List.set_cons_zero, List.set_cons_succ]
      refine wpAnyH_take (i := 3) (oi := { dst := some 57, op := Op.fieldAddr 32 (Operand.tmp 3) 3, type := 0, pos := "engine.go:157", after := #[], guard := none }) (v := .pointer (some ⟨w.heap.size, 3, none⟩)) rfl (by kernel_rfl) (by kernel_rfl) (by kernel_rfl) (fun _ _ _ h => h) (Or.inl ⟨by rfl, fun w hSw => by go_simp⟩) (by assumption) ?_
      try simp only [Act.put, List.setIfInBounds_toArray, List.set_cons_zero, List.set_cons_succ]
      refine wpAnyH_take (i := 4) (oi := { dst := some 58, op := Op.load 30 (Operand.tmp 57), type := 30, pos := "engine.go:157", after := #[{ on := 3, ground := Ground.data }], guard := none }) (v := .agg #[.int .u32 (x.a : Int), .int .u8 (x.l : Int)]) rfl (by kernel_rfl) (by kernel_rfl) (by kernel_rfl) (fun _ _ _ h => h) (Or.inl ⟨by rfl, fun w hSw => by obtain ⟨k0, k1, k2, k3, k4, k5, k6, -⟩ := row7 (hSw.cells _ _ _ _ HX.out (by decide) HNX.out); have hxl := (Array.getElem?_eq_some_iff.1 (hSw.cells _ _ _ _ HX.out (by decide) HNX.out)).1; go_simp⟩) (by assumption) ?_
      try simp only [Act.put, List.setIfInBounds_toArray, List.set_cons_zero, List.set_cons_succ]
      refine wpAnyH_take (i := 5) (oi := { dst := some 59, op := Op.fieldAddr 32 (Operand.tmp 3) 4, type := 0, pos := "engine.go:157", after := #[], guard := none }) (v := .pointer (some ⟨w.heap.size, 5, none⟩)) rfl (by kernel_rfl) (by kernel_rfl) (by kernel_rfl) (fun _ _ _ h => h) (Or.inl ⟨by rfl, fun w hSw => by go_simp⟩) (by assumption) ?_
      try simp only [Act.put, List.setIfInBounds_toArray, List.set_cons_zero, List.set_cons_succ]
      refine wpAnyH_take (i := 6) (oi := { dst := some 60, op := Op.load 22 (Operand.tmp 59), type := 22, pos := "engine.go:157", after := #[{ on := 5, ground := Ground.data }], guard := none }) (v := .int .u16 (x.s : Int)) rfl (by kernel_rfl) (by kernel_rfl) (by kernel_rfl) (fun _ _ _ h => h) (Or.inl ⟨by rfl, fun w hSw => by obtain ⟨k0, k1, k2, k3, k4, k5, k6, -⟩ := row7 (hSw.cells _ _ _ _ HX.out (by decide) HNX.out); have hxl := (Array.getElem?_eq_some_iff.1 (hSw.cells _ _ _ _ HX.out (by decide) HNX.out)).1; go_simp⟩) (by assumption) ?_
      try simp only [Act.put, List.setIfInBounds_toArray, List.set_cons_zero, List.set_cons_succ]
      refine wpAnyH_take (i := 7) (oi := { dst := some 61, op := Op.fieldAddr 32 (Operand.tmp 3) 1, type := 0, pos := "engine.go:157", after := #[], guard := none }) (v := .pointer (some ⟨w.heap.size, 1, none⟩)) rfl (by kernel_rfl) (by kernel_rfl) (by kernel_rfl) (fun _ _ _ h => h) (Or.inl ⟨by rfl, fun w hSw => by go_simp⟩) (by assumption) ?_
      try simp only [Act.put, List.setIfInBounds_toArray, List.set_cons_zero, List.set_cons_succ]
      refine wpAnyH_take (i := 8) (oi := { dst := some 62, op := Op.load 27 (Operand.tmp 61), type := 27, pos := "engine.go:157", after := #[{ on := 7, ground := Ground.data }], guard := none }) (v := .int .u64 (x.n : Int)) rfl (by kernel_rfl) (by kernel_rfl) (by kernel_rfl) (fun _ _ _ h => h) (Or.inl ⟨by rfl, fun w hSw => by obtain ⟨k0, k1, k2, k3, k4, k5, k6, -⟩ := row7 (hSw.cells _ _ _ _ HX.out (by decide) HNX.out); have hxl := (Array.getElem?_eq_some_iff.1 (hSw.cells _ _ _ _ HX.out (by decide) HNX.out)).1; go_simp⟩) (by assumption) ?_
      try simp only [Act.put, List.setIfInBounds_toArray, List.set_cons_zero, List.set_cons_succ]
      refine wpAnyH_take (i := 9) (oi := { dst := some 63, op := Op.binOp BinOp.sub 27 (Operand.tmp 62) (Operand.const (Value.int IntKind.u64 1)) 27, type := 27, pos := "engine.go:157", after := #[{ on := 8, ground := Ground.data }], guard := none }) (v := .int .u64 ((x.n : Int) - 1)) rfl (by kernel_rfl) (by kernel_rfl) (by kernel_rfl) (fun _ _ _ h => h) (Or.inl ⟨by rfl, fun w hSw => by have hw1 := HW1.out; go_simp⟩) (by assumption) ?_
      try simp only [Act.put, List.setIfInBounds_toArray, List.set_cons_zero, List.set_cons_succ]
      refine wpAnyH_ready (rs := [10]) (by kernel_rfl) (by simp) ?_
      refine (AllReadyH.cons (o := { dst := some 64, op := Op.call { callee := Callee.value (Operand.func 86), args := #[Operand.tmp 56, Operand.tmp 58, Operand.tmp 60, Operand.tmp 63], argTypes := #[93, 30, 22, 27] }, type := 0, pos := "engine.go:157", after := #[{ on := 2, ground := Ground.data }, { on := 4, ground := Ground.data }, { on := 6, ground := Ground.data }, { on := 9, ground := Ground.data }], guard := none }) rfl (fun K hK => ?_) AllReadyH.nil)
      go_simp
      with_reducible refine (HASK.out wd HED.out HTD.out).mono ?_
      rintro en wd2 ⟨rfl, hES, hEf⟩
      have HES := Lib.hid hES
      refine hK.out _ _ (Ef.trans hHeld hEf (fun k hk => Or.inl hk)) (fun hHeld2 => ?_)
      clear hK K hHeld
      have hHeld := hHeld2
      clear hHeld2
      try simp only [Act.put, List.setIfInBounds_toArray, List.set_cons_zero, List.set_cons_succ]
      clear hES hEf
      generalize wd2 = wz at *
      refine wpAnyH_done (by kernel_rfl) ?_ _
      try unfold NoPanic
      clear hHeld
      go_wp2
      exact bodyPost_end (v := .tuple #[]) (by simp [results, Tryz.results43, go_sem]) rfl ⟨rfl, HES.out⟩
  | some r =>
    obtain ⟨hrm, hrk⟩ := look_mem hl
    obtain ⟨i, hi, hir⟩ := List.getElem_of_mem hrm
    rw [hl] at hrq
    have HRT := Lib.hid (fun W (hE : EngAt lo W q e m) => by
      have h9 := route_some W lo q e m hE hok x.a x.l hll i hi (by rw [hir]; exact hrk)
      rw [hir] at h9
      exact h9)
    have HON := Lib.hid (fun W => orNewer_any (r.s : Int) (x.s : Int) W)
    have hbeq : ((r.s : Int) == (x.s : Int)) = (r.s == x.s) := by
      rw [Bool.eq_iff_iff]; simp; omega
    rw [hbeq] at HON
    cases hk : (r.s == x.s || newer (r.s : Int) (x.s : Int)) with
    | true =>
      have HREQ : Hid (e.req x = { e with due := true }) := Lib.hid (by rw [hrq]; simp only [hk]; rfl)
      rw [hk] at HON
      clear h hok hx ho hrq hl BA r0 hll hk hbeq hrm hrk hi hir
      go_enter Tryz.func43, Tryz.ntmps43
      go_upto_region 7 with (first
        | (go_at_call 74; (with_reducible refine HHM.out.mono ?_); rintro en w3 ⟨rfl, hB⟩; have HE2 := Lib.hid (HE1.out.step hB); have HX := Lib.hid (brow hB HX1.out); have HB2 := Lib.hid (HB1.out.trans (hB.mono HB1.out.size)); obtain ⟨k0, k1, k2, k3, k4, k5, k6, -⟩ := row7 (brow hB HX1.out); have hxl := (Array.getElem?_eq_some_iff.1 (brow hB HX1.out)).1; clear hB HE1 HX1 HB1 HHM)
        | (go_at_call 18; (with_reducible refine (HRT.out _ HE2.out).mono ?_); rintro en w4 ⟨rfl, hB⟩; have HE4 := Lib.hid (HE2.out.step hB); have HX4 := Lib.hid (brow hB HX.out); have HB4 := Lib.hid (HB2.out.trans (hB.mono HB2.out.size)); clear hB HE2 HX HB2))
      have BA4 := (Below.refl w4.heap.size w4).alloc (Nat.le_refl _) (.cells #[.int .u32 (r.a : Int), .int .u8 (r.n : Int), .int .i64 (r.v : Int), .int .u16 (r.m : Int), .int .u16 (r.s : Int)] 40)
      have HE := Lib.hid (HE4.out.step BA4)
      have HX := Lib.hid (brow BA4 HX4.out)
      have HT := Lib.hid (HB4.out.trans (BA4.mono HB4.out.size))
      have HY := Lib.hid (heap_alloc_new w4 (.cells #[.int .u32 (r.a : Int), .int .u8 (r.n : Int), .int .i64 (r.v : Int), .int .u16 (r.m : Int), .int .u16 (r.s : Int)] 40))
      clear BA4 HE4 HX4 HB4
      generalize w4.alloc _ = w5 at *
      generalize w4.heap.size = yb at *
      obtain ⟨x0, x1, x2, x3, x4, x5, x6, -⟩ := row7 HX.out
      have hxl := (Array.getElem?_eq_some_iff.1 HX.out).1
      obtain ⟨y0, y1, y2, y3, y4, -⟩ := row5' HY.out
      have hyl := (Array.getElem?_eq_some_iff.1 HY.out).1
      go_upto_region 8 with (go_at_call 85; (with_reducible refine (HON.out _).mono ?_); rintro en w6 ⟨rfl, rfl⟩)
      have HT := HT
      have HS := Lib.hid (ES.of HE.out (Below.refl w5.heap.size w5))
      obtain ⟨m5, hE5, F5, X5, l5⟩ := HS.out
      have c11 := hE5.ec.c11
      have f11 := hE5.ec.fz 11
      have hq5 := hE5.lt
      have HD5 := Lib.hid (EngAt.put hE5.row hE5.le (e' := { e with due := true }) (m' := m5) (hE5.p.nums rfl) 11 (.bool true) rfl)
      have HF5 := Lib.hid (Ef.trans (Ef.trans (Ef.of (X := m.X q) HT.out HE0.out.los) F5 (fun k hk => Or.inl hk)) (Ef.frm (X := fun k => k = q) (Fr.grown (grown_setCell _ q 11 (.bool true)) (fun k e => (Option.some.inj e).symm)) hE5.los (fun k hk => hk ▸ hE5.le) (fun k h => h)) (fun k hk => by
        rcases X5 q (Or.inl rfl) with h1 | h1
        · exact Or.inl (hk ▸ h1)
        · exact Or.inl (Or.inl hk)))
      have HX5 := Lib.hid (And.intro X5 l5)
      clear hE5 F5 X5 l5
      go_wp2
      exact bodyPost_ret (v := .tuple #[]) (by simp [results, Tryz.results43, go_sem]) rfl ⟨rfl, m5, by rw [HREQ.out]; exact HD5.out, HF5.out, fun k hk => (HX5.out.1 k hk).imp (fun h => h) (fun h => Nat.le_trans HT.out.size h), HX5.out.2⟩
    | false =>
      have HREQ : Hid ((x.n = 0 → e.req x = e) ∧ (¬ x.n = 0 → e.req x = e.ask x.a x.l x.s (x.n - 1))) := Lib.hid ⟨fun h9 => by rw [hrq]; simp only [hk]; simp [h9], fun h9 => by rw [hrq]; simp only [hk]; simp [h9]⟩
      rw [hk] at HON
      clear h hok hx ho hrq hl BA r0 hll hk hbeq hrm hrk hi hir
      go_enter Tryz.func43, Tryz.ntmps43
      go_upto_region 7 with (first
        | (go_at_call 74; (with_reducible refine HHM.out.mono ?_); rintro en w3 ⟨rfl, hB⟩; have HE2 := Lib.hid (HE1.out.step hB); have HX := Lib.hid (brow hB HX1.out); have HB2 := Lib.hid (HB1.out.trans (hB.mono HB1.out.size)); obtain ⟨k0, k1, k2, k3, k4, k5, k6, -⟩ := row7 (brow hB HX1.out); have hxl := (Array.getElem?_eq_some_iff.1 (brow hB HX1.out)).1; clear hB HE1 HX1 HB1 HHM)
        | (go_at_call 18; (with_reducible refine (HRT.out _ HE2.out).mono ?_); rintro en w4 ⟨rfl, hB⟩; have HE4 := Lib.hid (HE2.out.step hB); have HX4 := Lib.hid (brow hB HX.out); have HB4 := Lib.hid (HB2.out.trans (hB.mono HB2.out.size)); clear hB HE2 HX HB2))
      have BA4 := (Below.refl w4.heap.size w4).alloc (Nat.le_refl _) (.cells #[.int .u32 (r.a : Int), .int .u8 (r.n : Int), .int .i64 (r.v : Int), .int .u16 (r.m : Int), .int .u16 (r.s : Int)] 40)
      have HE := Lib.hid (HE4.out.step BA4)
      have HX := Lib.hid (brow BA4 HX4.out)
      have HT := Lib.hid (HB4.out.trans (BA4.mono HB4.out.size))
      have HY := Lib.hid (heap_alloc_new w4 (.cells #[.int .u32 (r.a : Int), .int .u8 (r.n : Int), .int .i64 (r.v : Int), .int .u16 (r.m : Int), .int .u16 (r.s : Int)] 40))
      clear BA4 HE4 HX4 HB4
      generalize w4.alloc _ = w5 at *
      generalize w4.heap.size = yb at *
      obtain ⟨x0, x1, x2, x3, x4, x5, x6, -⟩ := row7 HX.out
      have hxl := (Array.getElem?_eq_some_iff.1 HX.out).1
      obtain ⟨y0, y1, y2, y3, y4, -⟩ := row5' HY.out
      have hyl := (Array.getElem?_eq_some_iff.1 HY.out).1
      go_upto_region 9 with (go_at_call 85; (with_reducible refine (HON.out _).mono ?_); rintro en w6 ⟨rfl, rfl⟩)
      clear x0 x1 x2 x3 x4 x5 x6 hxl y0 y1 y2 y3 y4 hyl
      obtain ⟨x0, x1, x2, x3, x4, x5, x6, -⟩ := row7 HX.out
      have hxl := (Array.getElem?_eq_some_iff.1 HX.out).1
      by_cases hn : x.n = 0
      · have hn1 : ((x.n : Int) == 0) = true := by simp; omega
        have hE := HREQ.out.1 hn
        have HR := Lib.hid hE
        clear hE hn
        go_wp2
        exact bodyPost_end (v := .tuple #[]) (by simp [results, Tryz.results43, go_sem]) rfl ⟨rfl, by rw [HR.out]; exact ES.of HE0.out HT.out⟩
      · have hn1 : ((x.n : Int) == 0) = false := by simp; omega
        have HW1 : Hid (IntKind.u64.wrap ((x.n : Int) - 1) = (x.n : Int) - 1) := Lib.hid (by rw [IntKind.wrap_u64]; have := HXO.out.n; omega)
        have HASK : Hid (∀ W, EngAt lo W q e m → Below w.heap.size w W → Calls Tryz.prog 86 #[.pointer (some ⟨q, 10, none⟩), .agg #[.int .u32 (x.a : Int), .int .u8 (x.l : Int)], .int .u16 (x.s : Int), .int .u64 ((x.n : Int) - 1)] W fun en w' => en = .returned (.tuple #[]) ∧ ES lo w q m (e.req x) w' ∧ Ef lo (m.X q) W w') := Lib.hid fun W hE B => by
          have hc := ask_any W lo q e m hE HOK.out x.a x.l x.s (x.n - 1)
          have e9 : ((x.n - 1 : Nat) : Int) = (x.n : Int) - 1 := by omega
          rw [e9] at hc
          refine hc.mono ?_
          rintro en w' ⟨rfl, hES⟩
          rw [HREQ.out.2 hn]
          exact ⟨rfl, ES.trans (m1 := m) (Ef.of B HE0.out.los) (fun k hk => Or.inl hk) B.size hES, hES.choose_spec.2.1⟩
        clear hn
        go_upto_region 10 with (fail)
        clear x0 x1 x2 x3 x4 x5 x6 hxl hn1
        have HED := Lib.hid (HE.out.step ((Below.refl w5.heap.size w5).drew))
        have HTD := Lib.hid (HT.out.trans (((Below.refl w5.heap.size w5).drew).mono HT.out.size))
        refine wp_region_noPanic ?_
        refine wp_region_held_drew (S := fun y9 : World => Ef lo (m.X q) w5 y9) (by kernel_rfl) (Ef.of ((Below.refl _ _).drew) HE.out.los) (fun hHeld => ?_)
        generalize w5.drew = wd at *
        refine wpAnyH_take (i := 0) (oi := { dst := some 54, op := Op.move (Operand.tmp 0), type := 24, pos := "engine.go:157", after := #[], guard := none }) (v := .pointer (some ⟨q, 0, none⟩)) rfl (by kernel_rfl) (by kernel_rfl) (by kernel_rfl) (fun _ _ _ h => h) (Or.inl ⟨by rfl, fun w hSw => by go_simp⟩) (by assumption) ?_
        try simp only [Act.put, List.setIfInBounds_toArray, List.set_cons_zero, List.set_cons_succ]
        refine wpAnyH_take (i := 1) (oi := { dst := some 55, op := Op.nilCheck (Operand.tmp 54), type := 0, pos := "engine.go:157", after := #[{ on := 0, ground := Ground.data }], guard := none }) (v := .pointer (some ⟨q, 0, none⟩)) rfl (by kernel_rfl) (by kernel_rfl) (by kernel_rfl) (fun _ _ _ h => h) (Or.inl ⟨by rfl, fun w hSw => by go_simp⟩) (by assumption) ?_
        try simp only [Act.put, List.setIfInBounds_toArray, List.set_cons_zero, List.set_cons_succ]
        refine wpAnyH_take (i := 2) (oi := { dst := some 56, op := Op.fieldAddr 95 (Operand.tmp 55) 7, type := 0, pos := "engine.go:157", after := #[{ on := 1, ground := Ground.data }], guard := none }) (v := .pointer (some ⟨q, 10, none⟩)) rfl (by kernel_rfl) (by kernel_rfl) (by kernel_rfl) (fun _ _ _ h => h) (Or.inl ⟨by rfl, fun w hSw => by go_simp⟩) (by assumption) ?_
        try simp only [Act.put, List.setIfInBounds_toArray, List.set_cons_zero, List.set_cons_succ]
        refine wpAnyH_take (i := 3) (oi := { dst := some 57, op := Op.fieldAddr 32 (Operand.tmp 3) 3, type := 0, pos := "engine.go:157", after := #[], guard := none }) (v := .pointer (some ⟨w.heap.size, 3, none⟩)) rfl (by kernel_rfl) (by kernel_rfl) (by kernel_rfl) (fun _ _ _ h => h) (Or.inl ⟨by rfl, fun w hSw => by go_simp⟩) (by assumption) ?_
        try simp only [Act.put, List.setIfInBounds_toArray, List.set_cons_zero, List.set_cons_succ]
        refine wpAnyH_take (i := 4) (oi := { dst := some 58, op := Op.load 30 (Operand.tmp 57), type := 30, pos := "engine.go:157", after := #[{ on := 3, ground := Ground.data }], guard := none }) (v := .agg #[.int .u32 (x.a : Int), .int .u8 (x.l : Int)]) rfl (by kernel_rfl) (by kernel_rfl) (by kernel_rfl) (fun _ _ _ h => h) (Or.inl ⟨by rfl, fun w hSw => by obtain ⟨k0, k1, k2, k3, k4, k5, k6, -⟩ := row7 (hSw.cells _ _ _ _ HX.out (by decide) HNX.out); have hxl := (Array.getElem?_eq_some_iff.1 (hSw.cells _ _ _ _ HX.out (by decide) HNX.out)).1; go_simp⟩) (by assumption) ?_
        try simp only [Act.put, List.setIfInBounds_toArray, List.set_cons_zero, List.set_cons_succ]
        refine wpAnyH_take (i := 5) (oi := { dst := some 59, op := Op.fieldAddr 32 (Operand.tmp 3) 4, type := 0, pos := "engine.go:157", after := #[], guard := none }) (v := .pointer (some ⟨w.heap.size, 5, none⟩)) rfl (by kernel_rfl) (by kernel_rfl) (by kernel_rfl) (fun _ _ _ h => h) (Or.inl ⟨by rfl, fun w hSw => by go_simp⟩) (by assumption) ?_
        try simp only [Act.put, List.setIfInBounds_toArray, List.set_cons_zero, List.set_cons_succ]
        refine wpAnyH_take (i := 6) (oi := { dst := some 60, op := Op.load 22 (Operand.tmp 59), type := 22, pos := "engine.go:157", after := #[{ on := 5, ground := Ground.data }], guard := none }) (v := .int .u16 (x.s : Int)) rfl (by kernel_rfl) (by kernel_rfl) (by kernel_rfl) (fun _ _ _ h => h) (Or.inl ⟨by rfl, fun w hSw => by obtain ⟨k0, k1, k2, k3, k4, k5, k6, -⟩ := row7 (hSw.cells _ _ _ _ HX.out (by decide) HNX.out); have hxl := (Array.getElem?_eq_some_iff.1 (hSw.cells _ _ _ _ HX.out (by decide) HNX.out)).1; go_simp⟩) (by assumption) ?_
        try simp only [Act.put, List.setIfInBounds_toArray, List.set_cons_zero, List.set_cons_succ]
        refine wpAnyH_take (i := 7) (oi := { dst := some 61, op := Op.fieldAddr 32 (Operand.tmp 3) 1, type := 0, pos := "engine.go:157", after := #[], guard := none }) (v := .pointer (some ⟨w.heap.size, 1, none⟩)) rfl (by kernel_rfl) (by kernel_rfl) (by kernel_rfl) (fun _ _ _ h => h) (Or.inl ⟨by rfl, fun w hSw => by go_simp⟩) (by assumption) ?_
        try simp only [Act.put, List.setIfInBounds_toArray, List.set_cons_zero, List.set_cons_succ]
        refine wpAnyH_take (i := 8) (oi := { dst := some 62, op := Op.load 27 (Operand.tmp 61), type := 27, pos := "engine.go:157", after := #[{ on := 7, ground := Ground.data }], guard := none }) (v := .int .u64 (x.n : Int)) rfl (by kernel_rfl) (by kernel_rfl) (by kernel_rfl) (fun _ _ _ h => h) (Or.inl ⟨by rfl, fun w hSw => by obtain ⟨k0, k1, k2, k3, k4, k5, k6, -⟩ := row7 (hSw.cells _ _ _ _ HX.out (by decide) HNX.out); have hxl := (Array.getElem?_eq_some_iff.1 (hSw.cells _ _ _ _ HX.out (by decide) HNX.out)).1; go_simp⟩) (by assumption) ?_
        try simp only [Act.put, List.setIfInBounds_toArray, List.set_cons_zero, List.set_cons_succ]
        refine wpAnyH_take (i := 9) (oi := { dst := some 63, op := Op.binOp BinOp.sub 27 (Operand.tmp 62) (Operand.const (Value.int IntKind.u64 1)) 27, type := 27, pos := "engine.go:157", after := #[{ on := 8, ground := Ground.data }], guard := none }) (v := .int .u64 ((x.n : Int) - 1)) rfl (by kernel_rfl) (by kernel_rfl) (by kernel_rfl) (fun _ _ _ h => h) (Or.inl ⟨by rfl, fun w hSw => by have hw1 := HW1.out; go_simp⟩) (by assumption) ?_
        try simp only [Act.put, List.setIfInBounds_toArray, List.set_cons_zero, List.set_cons_succ]
        refine wpAnyH_ready (rs := [10]) (by kernel_rfl) (by simp) ?_
        refine (AllReadyH.cons (o := { dst := some 64, op := Op.call { callee := Callee.value (Operand.func 86), args := #[Operand.tmp 56, Operand.tmp 58, Operand.tmp 60, Operand.tmp 63], argTypes := #[93, 30, 22, 27] }, type := 0, pos := "engine.go:157", after := #[{ on := 2, ground := Ground.data }, { on := 4, ground := Ground.data }, { on := 6, ground := Ground.data }, { on := 9, ground := Ground.data }], guard := none }) rfl (fun K hK => ?_) AllReadyH.nil)
        go_simp
        with_reducible refine (HASK.out wd HED.out HTD.out).mono ?_
        rintro en wd2 ⟨rfl, hES, hEf⟩
        have HES := Lib.hid hES
        refine hK.out _ _ (Ef.trans hHeld hEf (fun k hk => Or.inl hk)) (fun hHeld2 => ?_)
        clear hK K hHeld
        have hHeld := hHeld2
        clear hHeld2
        try simp only [Act.put, List.setIfInBounds_toArray, List.set_cons_zero, List.set_cons_succ]
        clear hES hEf
        generalize wd2 = wz at *
        refine wpAnyH_done (by kernel_rfl) ?_ _
        try unfold NoPanic
        clear hHeld
        go_wp2
        exact bodyPost_end (v := .tuple #[]) (by simp [results, Tryz.results43, go_sem]) rfl ⟨rfl, HES.out⟩
end Go.Proofs.YtjbogjbopgcbhaaGreatDoor.Eg
namespace Go.Proofs.YtjbogjbopgcbhaaGreatDoor.Eg
open Pre Ser Rts
open Go.Proofs.YtjbogjbopgcbhaaGreatDoor.Src (row1 row2 Mk SrcAt)
open Go.Proofs.YtjbogjbopgcbhaaGreatDoor.Lk (LkAt)
open Go.ChangeShapes Go.WideShapes Go.ChangeAt Go.RowKit
set_option maxRecDepth 8000
set_option linter.unusedVariables false
set_option linter.unusedSimpArgs false

open Go.Proofs.YtjbogjbopgcbhaaGreatDoor.Src (pv mv pA pN)
set_option linter.unusedSimpArgs false
theorem Eng.Ok.own {e : Eng} (h : e.Ok) {l : List Hm} {d : Bool} (h1 : ∀ g ∈ l, g.a < 4294967296 ∧ Pre.right g.a g.n = true ∧ g.n < 256 ∧ g.s < 65536) (h2 : l.length ≤ 100) : ({ e with own := l, due := d } : Eng).Ok :=
  ⟨h.idl, h.nbu, h.nbl, h.nbk, h.ri, h.lok, h.lle, h.chu, h.cho, h.chl, h1, h2, h.lou, h.loo, h.lol, h.rql, h.cl, h.cts⟩
theorem req_ok {e : Eng} (h : e.Ok) (x : Pt) : (e.req x).Ok ∧ (e.req x).nb = e.nb ∧ (e.req x).L = e.L := by
  unfold Eng.req
  split
  · rename_i ho
    have hi : e.own.findIdx (Hm.is x.a x.l) < e.own.length := List.findIdx_lt_length.2 (List.any_eq_true.1 ho)
    refine ⟨?_, rfl, rfl⟩
    rw [modify_set _ _ _ hi]
    refine h.own (fun g hg => ?_) (by rw [List.length_set]; exact h.owl)
    rcases List.mem_or_eq_of_mem_set hg with hg | rfl
    · exact h.owo g hg
    · have h0 := h.owo _ (List.getElem_mem hi)
      unfold Hm.next
      split
      · exact ⟨h0.1, h0.2.1, h0.2.2.1, Nat.mod_lt _ (by decide)⟩
      · exact h0
  · split
    · exact ⟨h.nums rfl ⟨h.cts.1, h.cts.2.1, h.cts.2.2.2.2⟩, rfl, rfl⟩
    · split
      · exact ⟨h, rfl, rfl⟩
      · refine ⟨h.ask _ _ _ _, ?_, (ask_same e _ _ _ _).2.2.1⟩
        rw [ask_same']
theorem reqOK_any (lo q b now : Nat) (xs : List Pt) (hxs : ∀ x ∈ xs, x.Ok) : ReqOK lo q b now xs := fun x hx _ e hok => by
  obtain ⟨h1, h2, h3⟩ := req_ok hok x
  refine ⟨h1, h2, by rw [h3]; exact Nat.le_succ _, fun W m' hE => ?_⟩
  cases ho : e.isOwn x.a x.l with
  | true => exact req_own W lo q e m' hE hok x (hxs x hx) ho
  | false => exact req_other W lo q e m' hE hok x (hxs x hx) ho
/-- Tell. -/
theorem tell_lw {w W : World} {q : Nat} {e : Eng} {K : Kept} (h : LW w W q e K) (hhe : e.he ≤ 900000) (hll : e.lost.length ≤ 400) (now : Nat) (AR : Option Addr) (kr cr : Nat) (L : List Rw) (hk : kr = L.length) (hkl : kr ≤ 1000) (hsr : GSl 10 Rw.cl W AR L) (hAR : AR = none ∨ ∃ z x, AR = some ⟨z, 0, none⟩ ∧ (z, x, 62) ∈ K) :
    Calls Tryz.prog 24 #[.pointer (some ⟨q, 0, none⟩), .int .u64 (now : Int), .slice AR kr cr] W fun en w' => ∃ A n c, en = .returned (.tuple #[.agg #[.int .i64 ((if e.tellP now L = [] then 0 else e.id : Nat) : Int), .slice A n c], .bool (decide (e.tellP now L ≠ []))]) ∧ n = (e.tellP now L).length ∧ GSl 7 Pt.cl w' A (e.tellP now L) ∧ (A = none → c = 0) ∧ n ≤ c ∧ LW w w' q (e.tellE now) K := by
  obtain ⟨m, hE, hK⟩ := h.ex
  refine (tellp_any W _ q e m hE h.ok hhe hll now AR kr cr L hk hkl hsr (fun b' o e9 => ?_)).mono ?_
  · rcases hAR with h0 | ⟨z, x, h0, h1⟩
    · rw [h0] at e9; cases e9
    · rw [h0] at e9
      injection e9 with e9
      injection e9 with e1
      subst e1
      obtain ⟨k1, k2, k3⟩ := hK _ h1
      exact ⟨k3, _, _, k2, k1⟩
  rintro en w' ⟨A, n, c, rfl, hn, hO, ⟨m', hE', F, X, -⟩, ok'⟩
  obtain ⟨A2, c2, n2, hv, hs, -, hA⟩ := own_open hO
  obtain ⟨A3, c3, hv3, hle, -⟩ := hO.form (fun _ => rfl)
  injection hv with e1 e2 e3
  subst e1 e2 e3
  injection hv3 with e1 e2 e3
  subst e3
  exact ⟨A, n, c, rfl, hn, hs, hA, by rw [hn]; exact hle, LW.to h.b hK hE' F X ok'⟩
theorem Met.tell {a b : Nat} {e : Eng} (h : Met a b e) (now : Nat) : Met a b (e.tellE now) := ⟨h.id, h.own, h.nb, h.st, h.fu, h.nr⟩
def rP (a n s k : Nat) : Pt := ⟨4, k, 0, a, n, s, 0⟩
theorem hear_req {a b : Nat} {e : Eng} (h : Met a b e) {k now : Nat} {x : Pt} (hk : k = 1 ∨ k = 2) (hx : x.k = 4) : e.hear k 0 now [x] = e.req x := by
  unfold Eng.hear
  rw [if_neg (by rw [h.id]; omega)]
  have h0 : ({ e with st := e.st + 0 } : Eng) = e := rfl
  rw [h0]
  have h1 : e.meet k now = e := by
    unfold Eng.meet
    rw [if_pos (by rw [h.nb]; rcases hk with rfl | rfl <;> rfl)]
  rw [h1, List.foldl_cons, List.foldl_nil]
  unfold Eng.part
  rw [if_neg (by omega), if_neg (by omega), if_neg (by omega), if_pos hx]
/-- One part of kind 4 is heard. -/
theorem hear_rq {w W : World} {q : Nat} {e : Eng} {K : Kept} {a b z : Nat} {x : Array Value} (h : LW w W q e ((z, x, 32) :: K)) (hm : Met a b e) {u : Pt} (hs : GSl 7 Pt.cl W (some ⟨z, 0, none⟩) [u]) (hu : u.Ok) (h4 : u.k = 4) {k now : Nat} (hk : k = 1 ∨ k = 2) (hl : e.L.length ≤ 100) (hnow : now ≤ 1000) :
    Calls Tryz.prog 15 #[.pointer (some ⟨q, 0, none⟩), .agg #[.int .i64 (k : Int), .slice (some ⟨z, 0, none⟩) 1 1], .int .i64 0, .int .u64 (now : Int)] W fun en w' => en = .returned (.tuple #[]) ∧ LW w w' q (e.req u) K := by
  have hc := hear_lw h k 0 now (some ⟨z, 0, none⟩) 1 1 [u] rfl hs (Or.inr ⟨z, x, rfl, List.mem_cons_self ..⟩) (fun y hy => by rw [List.mem_singleton] at hy; subst hy; exact hu) (by omega) (by rw [hm.id]; omega) (by omega) (by have := hm.st; omega) (by omega) (by rw [hm.nb]; show 2 ≤ 99; decide) (by show e.L.length + 1 ≤ 199; omega) (reqOK_any _ _ _ _ _ (fun y hy => by rw [List.mem_singleton] at hy; subst hy; exact hu))
  rw [hear_req hm hk h4] at hc
  refine hc.mono ?_
  rintro en w' ⟨rfl, hL⟩
  exact ⟨rfl, hL.sub fun k hk => List.mem_cons_of_mem _ hk⟩
end Go.Proofs.YtjbogjbopgcbhaaGreatDoor.Eg
