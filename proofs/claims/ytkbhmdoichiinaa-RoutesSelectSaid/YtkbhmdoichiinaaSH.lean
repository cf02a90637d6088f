/- Routes that are told, in memory; two lists that are the same. -/
import Derived.Test.YtkbhmdoichiinaaSG
namespace Go.Proofs.Ytkbhmdoichiinaa.Rts
open Pre Ser
open Go.Proofs.Ytkbhmdoichiinaa.Src (row1 row2)
open Go.ChangeShapes Go.WideShapes Go.ChangeAt Go.RowKit
set_option maxRecDepth 8000
set_option linter.unusedVariables false

open Go.Proofs.Ytkbhmdoichiinaa.Src (Mk SrcAt pA pN)
theorem ActD.s4 {d : ActD} {now : Nat} {L : List E} (hr : Rising L) (h : ∀ e ∈ L, e.s < 4) : ∀ e ∈ d.rts now L, e.s < 4 := fun e he => by
  unfold ActD.rts at he
  split at he
  · split at he
    · exact h e (List.mem_filter.1 he).1
    · rcases (putE_mem hr _ e).1 he with rfl | ⟨he, -⟩
      · show d.Q % 4 < 4; omega
      · exact h e he
  · split at he <;> exact h e (List.mem_filter.1 he).1
theorem IsActs.step {w W : World} {a : Option Addr} {len cap : Nat} {ds : List ActD} (h : IsActs w a len cap ds) (B : Below w.heap.size w W) : IsActs W a len cap ds := by
  obtain ⟨h1, h2, h3, h4⟩ := h
  refine ⟨h1, h2, h3, fun k hk => ?_⟩
  obtain ⟨b, o, e, hlt, hA⟩ := h4 k hk
  exact ⟨b, o, e, Nat.lt_of_lt_of_le hlt B.size, (B.cell (p := ⟨b, _, none⟩) hlt).trans hA.k, (B.cell (p := ⟨b, _, none⟩) hlt).trans hA.y, (B.cell (p := ⟨b, _, none⟩) hlt).trans hA.p, (B.cell (p := ⟨b, _, none⟩) hlt).trans hA.q, (B.cell (p := ⟨b, _, none⟩) hlt).trans hA.m, hA.ok⟩
structure RoAt (w : World) (b o : Nat) (r : Ro) : Prop where
  k0 : w.cell? ⟨b, o, none⟩ = some (.int .u32 (r.a : Int))
  k1 : w.cell? ⟨b, o + 1, none⟩ = some (.int .u8 (r.n : Int))
  k2 : w.cell? ⟨b, o + 2, none⟩ = some (.int .i64 (r.v : Int))
  k3 : w.cell? ⟨b, o + 3, none⟩ = some (.int .u16 (r.m : Int))
  k4 : w.cell? ⟨b, o + 4, none⟩ = some (.int .u16 (r.s : Int))
theorem RoAt.keep {w w' : World} {b o : Nat} {r : Ro} (h : RoAt w b o r) (hb : w'.heap[b]? = w.heap[b]?) : RoAt w' b o r := by
  have k : ∀ i, w'.cell? ⟨b, i, none⟩ = w.cell? ⟨b, i, none⟩ := fun i => World.cell?_of_block (a := ⟨b, i, none⟩) hb
  exact ⟨(k _).trans h.k0, (k _).trans h.k1, (k _).trans h.k2, (k _).trans h.k3, (k _).trans h.k4⟩
/-- Routes in a slice of one's own, read. -/
theorem GOwn.ros {w : World} {B : Nat} {v : Value} {rs : List Ro} (h : GOwn 53 5 Ro.cl w B v rs) : ∃ A c, v = .slice A rs.length c ∧ (0 < rs.length → ∃ b cur, A = some ⟨b, 0, none⟩ ∧ B ≤ b ∧ w.heap[b]? = some (.cells cur 53 (0, 0)) ∧ ∀ j (hj : j < rs.length), RoAt w b (j * 5) rs[j]) := by
  obtain ⟨A, c, hv, -, hc⟩ := h.form (fun _ => rfl)
  refine ⟨A, c, hv, fun h0 => ?_⟩
  obtain ⟨b, hA, hB, hb, -⟩ := hc 0 h0
  subst hA
  have hob : v.ownBlock = some b := by rw [hv]; rfl
  obtain ⟨-, cur, hcur⟩ := h.lt hob
  refine ⟨b, cur, rfl, hB, hcur, fun j hj => ?_⟩
  obtain ⟨b', hA', -, -, hcell⟩ := hc j hj
  injection hA' with hA'; injection hA' with hA' _ _
  subst hA'
  exact ⟨hcell 0 (by decide), hcell 1 (by decide), hcell 2 (by decide), hcell 3 (by decide), hcell 4 (by decide)⟩
set_option maxHeartbeats 2000000 in
theorem same_any (w : World) (B1 B2 : Nat) (v1 v2 : Value) (rs : List Ro) (h1 : GOwn 53 5 Ro.cl w B1 v1 rs) (h2 : GOwn 53 5 Ro.cl w B2 v2 rs) (hlen : rs.length ≤ 1000) : Calls Try.prog 25 #[v1, v2] w fun e w' => e = .returned (.bool true) ∧ Below w.heap.size w w' := by
  obtain ⟨A1, c1, rfl, g1⟩ := h1.ros
  obtain ⟨A2, c2, rfl, g2⟩ := h2.ros
  have HG := Lib.hid (And.intro g1 g2)
  obtain ⟨n, hn⟩ : ∃ n, n = rs.length := ⟨_, rfl⟩
  have HN := Lib.hid hn
  rw [← hn] at hlen ⊢
  clear h1 h2 g1 g2 hn
  go_enter Try.func25, Try.ntmps25
  go_wp2
  go_loopw [5] (fun iv wr => ∃ k : Nat, k ≤ n ∧ iv = .int .i64 k ∧ Hid (Below w.heap.size w wr)) (fun iv _ => n - (intOf iv).toNat)
  case atStart => exact ⟨0, Nat.zero_le _, rfl, Below.refl _ _⟩
  case round =>
    obtain ⟨k, hk, rfl, HB⟩ := hrel
    by_cases hlt : k < n
    · have h0 : 0 < rs.length := by have := HN.out; omega
      have hkl : k < rs.length := by have := HN.out; omega
      obtain ⟨b1, cur1, rfl, -, hc1, hr1⟩ := HG.out.1 h0
      obtain ⟨b2, cur2, rfl, -, hc2, hr2⟩ := HG.out.2 h0
      have e1 := hr1 k hkl
      have e2 := hr2 k hkl
      have l1 := (Array.getElem?_eq_some_iff.1 hc1).1
      have l2 := (Array.getElem?_eq_some_iff.1 hc2).1
      generalize rs[k] = r at e1 e2
      have HE1 := Lib.hid (e1.keep (HB.out.block b1 l1))
      have HE2 := Lib.hid (e2.keep (HB.out.block b2 l2))
      have HE1l := Lib.hid (Nat.lt_of_lt_of_le l1 HB.out.size)
      have HE2l := Lib.hid (Nat.lt_of_lt_of_le l2 HB.out.size)
      clear e1 e2 hc1 hc2 hr1 hr2 l1 l2 h0
      go_upto_region 6 with (fail)
      refine wp_region_noPanic ?_
      refine wp_region_held_drew (S := fun y : World => Below wr.heap.size wr y) (by kernel_rfl) ((Below.refl _ _).drew) (fun hHeld => ?_)
      generalize wr.drew = wd at *
      refine wpAnyH_take (i := 0) (oi := { dst := some 17, op := Op.move (Operand.tmp 0), type := 48, pos := "ref.go:102", after := #[], guard := none }) (v := .slice (some ⟨b1, 0, none⟩) n c1) rfl (by kernel_rfl) (by kernel_rfl) (by kernel_rfl) (fun _ _ _ h => h) (Or.inl ⟨by rfl, fun w hSw => by go_simp⟩) (by assumption) ?_
      try simp only [Act.put, List.setIfInBounds_toArray, List.set_cons_zero, List.set_cons_succ]
      refine wpAnyH_take (i := 1) (oi := { dst := some 18, op := Op.move (Operand.tmp 5), type := 3, pos := "ref.go:102", after := #[], guard := none }) (v := .int .i64 (k : Int)) rfl (by kernel_rfl) (by kernel_rfl) (by kernel_rfl) (fun _ _ _ h => h) (Or.inl ⟨by rfl, fun w hSw => by go_simp⟩) (by assumption) ?_
      try simp only [Act.put, List.setIfInBounds_toArray, List.set_cons_zero, List.set_cons_succ]
      refine wpAnyH_take (i := 2) (oi := { dst := some 19, op := Op.indexAddr 48 (Operand.tmp 17) (Operand.tmp 18), type := 0, pos := "ref.go:102", after := #[{ on := 0, ground := Ground.data }, { on := 1, ground := Ground.data }], guard := none }) (v := .pointer (some ⟨b1, k * 5, none⟩)) rfl (by kernel_rfl) (by kernel_rfl) (by kernel_rfl) (fun _ _ _ h => h) (Or.inl ⟨by rfl, fun w hSw => by go_simp⟩) (by assumption) ?_
      try simp only [Act.put, List.setIfInBounds_toArray, List.set_cons_zero, List.set_cons_succ]
      refine wpAnyH_take (i := 3) (oi := { dst := some 20, op := Op.load 53 (Operand.tmp 19), type := 53, pos := "ref.go:102", after := #[{ on := 2, ground := Ground.data }], guard := none }) (v := .agg #[.int .u32 (r.a : Int), .int .u8 (r.n : Int), .int .i64 (r.v : Int), .int .u16 (r.m : Int), .int .u16 (r.s : Int)]) rfl (by kernel_rfl) (by kernel_rfl) (by kernel_rfl) (fun _ _ _ h => h) (Or.inl ⟨by rfl, fun w hSw => by obtain ⟨k0, k1, k2, k3, k4⟩ := HE1.out.keep (hSw.block b1 HE1l.out); go_simp⟩) (by assumption) ?_
      try simp only [Act.put, List.setIfInBounds_toArray, List.set_cons_zero, List.set_cons_succ]
      refine wpAnyH_take (i := 4) (oi := { dst := some 21, op := Op.move (Operand.tmp 1), type := 48, pos := "ref.go:102", after := #[], guard := none }) (v := .slice (some ⟨b2, 0, none⟩) n c2) rfl (by kernel_rfl) (by kernel_rfl) (by kernel_rfl) (fun _ _ _ h => h) (Or.inl ⟨by rfl, fun w hSw => by go_simp⟩) (by assumption) ?_
      try simp only [Act.put, List.setIfInBounds_toArray, List.set_cons_zero, List.set_cons_succ]
      refine wpAnyH_take (i := 5) (oi := { dst := some 22, op := Op.move (Operand.tmp 5), type := 3, pos := "ref.go:102", after := #[], guard := none }) (v := .int .i64 (k : Int)) rfl (by kernel_rfl) (by kernel_rfl) (by kernel_rfl) (fun _ _ _ h => h) (Or.inl ⟨by rfl, fun w hSw => by go_simp⟩) (by assumption) ?_
      try simp only [Act.put, List.setIfInBounds_toArray, List.set_cons_zero, List.set_cons_succ]
      refine wpAnyH_take (i := 6) (oi := { dst := some 23, op := Op.indexAddr 48 (Operand.tmp 21) (Operand.tmp 22), type := 0, pos := "ref.go:102", after := #[{ on := 4, ground := Ground.data }, { on := 5, ground := Ground.data }], guard := none }) (v := .pointer (some ⟨b2, k * 5, none⟩)) rfl (by kernel_rfl) (by kernel_rfl) (by kernel_rfl) (fun _ _ _ h => h) (Or.inl ⟨by rfl, fun w hSw => by go_simp⟩) (by assumption) ?_
      try simp only [Act.put, List.setIfInBounds_toArray, List.set_cons_zero, List.set_cons_succ]
      refine wpAnyH_take (i := 7) (oi := { dst := some 24, op := Op.load 53 (Operand.tmp 23), type := 53, pos := "ref.go:102", after := #[{ on := 6, ground := Ground.data }], guard := none }) (v := .agg #[.int .u32 (r.a : Int), .int .u8 (r.n : Int), .int .i64 (r.v : Int), .int .u16 (r.m : Int), .int .u16 (r.s : Int)]) rfl (by kernel_rfl) (by kernel_rfl) (by kernel_rfl) (fun _ _ _ h => h) (Or.inl ⟨by rfl, fun w hSw => by obtain ⟨k0, k1, k2, k3, k4⟩ := HE2.out.keep (hSw.block b2 HE2l.out); go_simp⟩) (by assumption) ?_
      try simp only [Act.put, List.setIfInBounds_toArray, List.set_cons_zero, List.set_cons_succ]
      refine wpAnyH_take (i := 8) (oi := { dst := some 25, op := Op.binOp BinOp.neq 53 (Operand.tmp 20) (Operand.tmp 24) 53, type := 4, pos := "ref.go:102", after := #[{ on := 3, ground := Ground.data }, { on := 7, ground := Ground.data }], guard := none }) (v := .bool false) rfl (by kernel_rfl) (by kernel_rfl) (by kernel_rfl) (fun _ _ _ h => h) (Or.inl ⟨by rfl, fun w hSw => by go_simp⟩) (by assumption) ?_
      try simp only [Act.put, List.setIfInBounds_toArray, List.set_cons_zero, List.set_cons_succ]
      refine wpAnyH_done (by kernel_rfl) ?_ _
      try unfold NoPanic
      have HB2 := Lib.hid (HB.out.trans (hHeld.mono HB.out.size))
      clear hHeld
      go_wp2
      go_roundw
      case rel => exact ⟨k + 1, by omega, by go_num, HB2.out⟩
      case measure => simp [intOf]; omega
    · obtain rfl : k = n := by omega
      go_wp2
      go_ret
      exact ⟨rfl, HB.out⟩
theorem K_fr {lo : Nat} {W W' : World} (h : Src.K lo W W') : Fr (fun k => ¬ W'.heap[k]? = W.heap[k]?) W W' := ⟨h.below.os, h.below.tape, h.below.output, h.below.size, fun k _ hk => Classical.not_not.1 hk⟩
theorem K_row {lo : Nat} {W W' : World} (h : Src.K lo W W') {k : Nat} {x : Array Value} {t : TypeId} {fr : Nat × Nat} (hr : W.heap[k]? = some (.cells x t fr)) (ht : t ≠ 91) : ¬ ¬ W'.heap[k]? = W.heap[k]? := fun hn => hn ((h.cells k x t fr hr ht).trans hr.symm)
/-- A mark that is lowered leaves all that. -/
theorem LW.mark {lo : Nat} {w W W' : World} {q g now : Nat} {v vl : Value} {L l : List E} (h : LW w W q g L v vl l now) (hK : Src.K lo W W') (hl : w.heap.size ≤ lo) : LW w W' q g L v vl l now :=
  ⟨h.b.trans (hK.below.mono hl), h.p.fr (K_fr hK) (K_row hK h.p.r.row (by decide)) (fun b e => by
    rcases h.p.r.own.2 with ⟨hv, -⟩ | ⟨g', cap, cur, hv, hB, hg, -⟩
    · rw [hv] at e; cases e
    · rw [hv] at e
      have e : some g' = some b := e
      injection e with e; subst e
      exact K_row hK hg (by decide)) (fun b cur hr _ => K_row hK hr (by decide)), hK.cells _ _ _ _ h.t (by decide), h.le⟩
theorem GOwn.mark {lo B : Nat} {W W' : World} {v : Value} {rs : List Ro} (h : GOwn 53 5 Ro.cl W B v rs) (hK : Src.K lo W W') : GOwn 53 5 Ro.cl W' B v rs := by
  rcases h with ⟨h0, h1 | ⟨g, cap, cur, hv, hB, hg, h2⟩⟩
  · exact ⟨h0, Or.inl h1⟩
  · exact ⟨h0, Or.inr ⟨g, cap, cur, hv, hB, hK.cells _ _ _ _ hg (by decide), h2⟩⟩
end Go.Proofs.Ytkbhmdoichiinaa.Rts
