/- The document's own shelf: Rename. -/
import Derived.Test.YtkalgonkaoiapaaRfh
import Derived.Deep.RegionHeld3
namespace Go.Proofs.Ytkalgonkaoiapaa.Shf
open Go.ChangeShapes Go.WideShapes Go.ChangeAt Go.RowKit

set_option maxRecDepth 4000 in
theorem with_own (w : World) (T : Nat → Tag) (v : Value) (l : List (S × Nat)) (s : S) (f : Nat) (h : RNm w T v l) (hl : l.length ≤ 1000000) (hT : ∀ b, T b ≠ .none → b < w.heap.size) :
    Calls Try.prog 57 #[v, .string (str s), .int .i64 (f : Int)] w fun e w' => ∃ v', e = .returned v' ∧ w'.ownsRow w.heap.size 96 2 v' (wi l s f).length ((wi l s f).flatMap nmP) ∧ Below w.heap.size w w' := by
  have c59 := without_any w T v l s h hl
  have hlen : (wo l s).length ≤ 1000000 := by
    unfold wo
    have := List.length_filter_le (fun p : S × Nat => !decide (p.1 = s)) l
    omega
  obtain ⟨i0, hi, hz0, hz1, hz2⟩ := info_parts info96
  have HI := Lib.hid (And.intro hi (And.intro hz0 (And.intro hz1 hz2)))
  have HL := Lib.hid hlen
  have HT := Lib.hid (fun b (hb : w.heap.size ≤ b) => show T b = .none by
    cases e : T b with
    | none => rfl
    | _ => exact absurd (hT b (by rw [e]; intro h; cases h)) (by omega))
  obtain ⟨nm, hnm⟩ : ∃ nm, nm = str s := ⟨_, rfl⟩
  have HS := Lib.hid hnm
  rw [← hnm] at c59 ⊢
  clear hi hz0 hz1 hz2 hlen hT hnm h
  go_enter Try.func57, Try.ntmps57
  go_wp2_with (first
    | (go_at_call 59; refine c59.mono ?_; rintro e w1 ⟨v1, rfl, O1, B1⟩; have HO := Lib.hid (And.intro O1 B1); clear O1 B1 c59)
    | (at_builtin; refine wpList_append_own_at _ rfl _ _ 32 rfl w.heap.size 96 i0 _ 2 24 Try.underlying32 HI.out.1 HI.out.2.1 HI.out.2.2.1 HI.out.2.2.2 rfl (by decide) v1 _ _ rfl (HO.out.1.alloc _) ⟨w1.heap.size, 0, none⟩ 1 1 [.string nm, .int .i64 (f : Int)] rfl rfl (cells_two _ _ _) (by intro u hu; simp at hu; rcases hu with rfl | rfl <;> rfl) (by have := HL.out; unfold maxLen; omega) (by have := HL.out; omega) (by have := HO.out.2.size; simp; omega) ?_; intro v2 w2 own2 grow2 nil2 at2; have HZ := Lib.hid (And.intro own2 grow2); clear own2 grow2 nil2 at2)
    | go_in)
  go_ret
  have hown : w2.ownsRow w.heap.size 96 2 v2 (wi l s f).length ((wi l s f).flatMap nmP) := by
    have h := HZ.out.1
    unfold wi
    rw [List.flatMap_append, List.length_append]
    simpa [nmP, ← HS.out] using h
  have hbel : Below w.heap.size w w2 := (HO.out.2.alloc HO.out.2.size _).grown HZ.out.2 (by have := HO.out.2.size; simp; omega) (fun j hj => (World.ownsRow.lt HO.out.1 j hj).1)
  exact ⟨v2, rfl, hown, hbel⟩
def X.rename (x : X) (s t : S) : X × Int := if nameOk t = true then (if x.stop then (x.act, 7) else match get x.now s with | none => (x.act, 2) | some f => if s = t then (x.act, 0) else ({ x.act with now := wi (wo x.now s) t f, was := x.was ++ [wi (wo x.now s) t f] }, 0)) else (x, 1)
set_option maxRecDepth 4000 in
set_option maxHeartbeats 2000000 in
theorem xrename_any (w : World) (T : Nat → Tag) (v : Value) (x : X) (s t : S) (h : RXE w T v x) (F : x.Fits) (hT : ∀ b, T b ≠ .none → b < w.heap.size) (ht : t.length ≤ 1000000) :
    Calls Try.prog 41 #[v, .string (str s), .string (str t)] w fun e w' =>
      ∃ v', e = .returned (.tuple #[v', .int .i64 (x.rename s t).2]) ∧ RXE w' T v' (x.rename s t).1 ∧ Below w.heap.size w w' := by
  obtain ⟨lv, nv, wv, fs, ws, R⟩ := h
  have c55 := fun W => xact_any W lv nv wv x.room x.left x.off x.done R.fl.sl R.nm.isSl R.wa.sl F.done F.left
  have c28 := fun W => right_any W t ht
  have c49 := fun W (K : Keep w T W T) => find_any W T nv x.now s (R.nm.keep K) F.now
  have HR := Lib.hid R
  have HT := Lib.hid (fun b (hb : w.heap.size ≤ b) => show T b = .none by
    cases e : T b with
    | none => rfl
    | _ => exact absurd (hT b (by rw [e]; intro h; cases h)) (by omega))
  have HF := Lib.hid F
  obtain ⟨A1, n1, c1, e1⟩ := R.fl.sl
  obtain ⟨A2, n2, c2, e2⟩ := R.nm.isSl
  obtain ⟨A3, n3, c3, e3⟩ := R.wa.sl
  rw [R.eq]
  clear R hT F
  subst e1 e2 e3
  obtain ⟨L, now, was, room, left, off, done⟩ := x
  simp only at c55 c49 ⊢
  unfold RfV at c55 ⊢
  obtain ⟨nmv, hnmv⟩ : ∃ n, n = str s := ⟨_, rfl⟩
  rw [← hnmv] at c49 ⊢
  have HS := Lib.hid hnmv
  clear hnmv
  obtain ⟨tov, htov⟩ : ∃ n, n = str t := ⟨_, rfl⟩
  rw [← htov] at c28 ⊢
  have HS2 := Lib.hid htov
  have heq : (nmv.toList == tov.toList) = decide (s = t) := by rw [HS.out, HS2.out, str_beq]
  clear htov ht
  by_cases hr : nameOk t = true
  case neg =>
    rw [show (X.mk L now was room left off done).rename s t = (_, 1) from if_neg hr]
    rw [show nameOk t = false by simpa using hr] at c28
    clear hr c49 c55 heq
    go_enter Try.func41, Try.ntmps41
    go_wp2_with (first
      | (go_at_call 28; (with_reducible refine (c28 _).mono ?_); rintro e w5 ⟨rfl, rfl⟩; clear c28)
      | (refine wpList_put35 (x0 := .slice none 0 0) (x1 := .slice none 0 0) (x2 := .slice none 0 0) (x3 := .int .i64 0) (x4 := .int .i64 0) (x5 := .bool false) (x6 := .int .i64 0) rfl _ _ rfl (w.heap.size + 1) rfl (heap_alloc2_new w _ _) rfl ?_; intro w3 E3 G3; have HH := Lib.hid (And.intro E3 ((below2 w _ _).grown G3 (by simp; omega) (fun k h => by cases h; omega))); clear E3 G3)
      | go_in)
    (try simp only [Exit.inBlock, Exit.then])
    refine bodyPost_ret (res35_tmp rfl _ _ (w.heap.size + 1) 35 _ (0, 0) rfl HH.out.1 rfl) rfl ?_
    exact ⟨_, rfl, ⟨_, _, _, fs, ws, { HR.out.keep (Shf.Below.keep HH.out.2 T) with eq := rfl }⟩, HH.out.2⟩
  rw [hr] at c28
  by_cases hs : off = true ∨ left = 0
  · have hs' : (X.mk L now was room left off done).stop := hs
    have HA : Hid ((X.mk L now was room left off done).act = ⟨L, now, was, room, left, true, done⟩) := if_pos hs'
    rw [show (X.mk L now was room left off done).rename s t = (_, 7) from (if_pos hr).trans (if_pos hs'), HA.out]
    rw [if_pos hs, decide_eq_true hs] at c55
    clear hs hs' HA c49 hr heq
    go_enter Try.func41, Try.ntmps41
    go_wp2_with (first
      | (go_at_call 28; (with_reducible refine (c28 _).mono ?_); rintro e w5 ⟨rfl, rfl⟩; clear c28)
      | (go_at_call 55; (with_reducible refine (c55 _).mono ?_); rintro e w1 ⟨rfl, B1⟩; obtain ⟨D1, D2, D3⟩ := kept2 B1; have HD := Lib.hid (And.intro D1 (And.intro D2 D3)); clear B1 D1 D2 D3 c55)
      | (refine wpList_put35 rfl _ _ rfl w.heap.size rfl HD.out.1 rfl ?_; intro w2 E1 G2; have E2 := (G2.block (w.heap.size + 1) (Array.getElem?_eq_some_iff.1 HD.out.2.1).1 (by simp)).trans HD.out.2.1; have HE := Lib.hid (And.intro E1 (And.intro E2 (HD.out.2.2.grown G2 HD.out.2.2.size (fun k h => by cases h; exact Nat.le_refl _)))); obtain ⟨p0, p1, p2, p3, p4, p5, p6, pf⟩ := row7 E1; clear E1 E2 G2 pf)
      | (refine wpList_put35 rfl _ _ rfl (w.heap.size + 1) rfl HE.out.2.1 rfl ?_; intro w3 E3 G3; have HH := Lib.hid (And.intro E3 (HE.out.2.2.grown G3 HE.out.2.2.size (fun k h => by cases h; omega))); clear E3 G3 p0 p1 p2 p3 p4 p5 p6)
      | go_in)
    (try simp only [Exit.inBlock, Exit.then])
    refine bodyPost_ret (res35_tmp rfl _ _ (w.heap.size + 1) 35 _ (0, 0) rfl HH.out.1 rfl) rfl ?_
    exact ⟨_, rfl, ⟨_, _, _, fs, ws, { HR.out.keep (Shf.Below.keep HH.out.2 T) with eq := rfl }⟩, HH.out.2⟩
  · have hs' : ¬ (X.mk L now was room left off done).stop := hs
    have HA : Hid ((X.mk L now was room left off done).act = ⟨L, now, was, room, (if 0 < left then left - 1 else left), off, done + 1⟩) := if_neg hs'
    rw [if_neg hs, decide_eq_false hs] at c55
    cases hg : get now s with
    | none =>
      rw [show (X.mk L now was room left off done).rename s t = (_, 2) from (if_pos hr).trans ((if_neg hs').trans (by rw [hg])), HA.out]
      rw [show findI now s = -1 by unfold findI; rw [hg]] at c49
      generalize (if 0 < left then left - 1 else left) = left' at *
      generalize done + 1 = done' at *
      clear hs hs' HA hg hr heq
      go_enter Try.func41, Try.ntmps41
      go_wp2_with (first
        | (go_at_call 28; (with_reducible refine (c28 _).mono ?_); rintro e w5 ⟨rfl, rfl⟩; clear c28)
        | (go_at_call 55; (with_reducible refine (c55 _).mono ?_); rintro e w1 ⟨rfl, B1⟩; obtain ⟨D1, D2, D3⟩ := kept2 B1; have HD := Lib.hid (And.intro D1 (And.intro D2 D3)); clear B1 D1 D2 D3 c55)
        | (refine wpList_put35 rfl _ _ rfl w.heap.size rfl HD.out.1 rfl ?_; intro w2 E1 G2; have E2 := (G2.block (w.heap.size + 1) (Array.getElem?_eq_some_iff.1 HD.out.2.1).1 (by simp)).trans HD.out.2.1; have HE := Lib.hid (And.intro E1 (And.intro E2 (HD.out.2.2.grown G2 HD.out.2.2.size (fun k h => by cases h; exact Nat.le_refl _)))); obtain ⟨p0, p1, p2, p3, p4, p5, p6, pf⟩ := row7 E1; clear E1 E2 G2 pf)
        | (go_at_call 49; (with_reducible refine (c49 w2 (Shf.Below.keep HE.out.2.2 T)).mono ?_); rintro e w5 ⟨rfl, rfl⟩; clear c49)
        | (refine wpList_put35 rfl _ _ rfl (w.heap.size + 1) rfl HE.out.2.1 rfl ?_; intro w3 E3 G3; have HH := Lib.hid (And.intro E3 (HE.out.2.2.grown G3 HE.out.2.2.size (fun k h => by cases h; omega))); clear E3 G3 p0 p1 p2 p3 p4 p5 p6)
        | go_in)
      (try simp only [Exit.inBlock, Exit.then])
      refine bodyPost_ret (res35_tmp rfl _ _ (w.heap.size + 1) 35 _ (0, 0) rfl HH.out.1 rfl) rfl ?_
      exact ⟨_, rfl, ⟨_, _, _, fs, ws, { HR.out.keep (Shf.Below.keep HH.out.2 T) with eq := rfl }⟩, HH.out.2⟩
    | some f =>
      rw [show findI now s = (f : Int) by unfold findI; rw [hg]] at c49
      generalize (if 0 < left then left - 1 else left) = left' at *
      generalize done + 1 = done' at *
      have hf0 : ¬ (f : Int) < 0 := by omega
      rw [show (X.mk L now was room left off done).rename s t = (if s = t then (_, 0) else (_, 0)) from (if_pos hr).trans ((if_neg hs').trans (by rw [hg])), HA.out]
      by_cases he : s = t
      · rw [if_pos he]
        rw [decide_eq_true he] at heq
        clear hs hs' HA hg hr he
        go_enter Try.func41, Try.ntmps41
        go_wp2_with (first
          | (go_at_call 28; (with_reducible refine (c28 _).mono ?_); rintro e w5 ⟨rfl, rfl⟩; clear c28)
          | (go_at_call 55; (with_reducible refine (c55 _).mono ?_); rintro e w1 ⟨rfl, B1⟩; obtain ⟨D1, D2, D3⟩ := kept2 B1; have HD := Lib.hid (And.intro D1 (And.intro D2 D3)); clear B1 D1 D2 D3 c55)
          | (refine wpList_put35 rfl _ _ rfl w.heap.size rfl HD.out.1 rfl ?_; intro w2 E1 G2; have E2 := (G2.block (w.heap.size + 1) (Array.getElem?_eq_some_iff.1 HD.out.2.1).1 (by simp)).trans HD.out.2.1; have HE := Lib.hid (And.intro E1 (And.intro E2 (HD.out.2.2.grown G2 HD.out.2.2.size (fun k h => by cases h; exact Nat.le_refl _)))); obtain ⟨p0, p1, p2, p3, p4, p5, p6, pf⟩ := row7 E1; clear E1 E2 G2 pf)
          | (go_at_call 49; (with_reducible refine (c49 w2 (Shf.Below.keep HE.out.2.2 T)).mono ?_); rintro e w5 ⟨rfl, rfl⟩; clear c49)
          | (refine wpList_put35 rfl _ _ rfl (w.heap.size + 1) rfl HE.out.2.1 rfl ?_; intro w3 E3 G3; have HH := Lib.hid (And.intro E3 (HE.out.2.2.grown G3 HE.out.2.2.size (fun k h => by cases h; omega))); clear E3 G3 p0 p1 p2 p3 p4 p5 p6)
          | go_in)
        (try simp only [Exit.inBlock, Exit.then])
        refine bodyPost_ret (res35_tmp rfl _ _ (w.heap.size + 1) 35 _ (0, 0) rfl HH.out.1 rfl) rfl ?_
        exact ⟨_, rfl, ⟨_, _, _, fs, ws, { HR.out.keep (Shf.Below.keep HH.out.2 T) with eq := rfl }⟩, HH.out.2⟩
      rw [if_neg he]
      rw [decide_eq_false he] at heq
      have hTW : ∀ W : World, w.heap.size ≤ W.heap.size → ∀ b, T b ≠ .none → b < W.heap.size := fun W hW b hb => by
        rcases Nat.lt_or_ge b w.heap.size with h | h
        · exact Nat.lt_of_lt_of_le h hW
        · exact absurd (HT.out b h) hb
      have c59 := fun W (K : Keep w T W T) => without_any W T (.slice A2 n2 c2) now s (HR.out.nm.keep K) HF.out.now
      rw [← HS.out] at c59
      have hwl0 : (wo now s).length ≤ 1000000 := by
        have h1 := List.length_filter_le (fun p : S × Nat => !decide (p.1 = s)) now
        have h2 : now.length ≤ 1000000 := HF.out.now
        unfold wo; omega
      have c57 := fun W v1 (hW : w.heap.size ≤ W.heap.size) (N : RNm W T v1 (wo now s)) => with_own W T v1 (wo now s) t f N hwl0 (hTW W hW)
      rw [← HS2.out] at c57
      have hws := HR.out.ol.left (P := isSl) (fun a b r => r.isSl)
      have hwl := HR.out.ol.len
      have hwn := HF.out.was
      have c56 := fun W v1 (K : Keep w T W T) (hv : isSl v1) l' d' => moved_any W T (.slice A1 n1 c1) (.slice A2 n2 c2) (.slice A3 n3 c3) v1 room l' off d' ws.length ws ⟨A1, n1, c1, rfl⟩ ⟨A2, n2, c2, rfl⟩ hv (HR.out.wa.keep K) hws (by rw [hwl]; exact hwn) (hTW W K.size)
      unfold RfV at c56
      have C56 : Hid _ := c56
      have C57 : Hid _ := c57
      clear hs hs' HA hg hws hwl hwn hr he hTW c56 c57 hwl0
      go_enter Try.func41, Try.ntmps41
      go_wp2_with (first
        | (go_at_call 28; (with_reducible refine (c28 _).mono ?_); rintro e w5 ⟨rfl, rfl⟩; clear c28)
        | (go_at_call 55; (with_reducible refine (c55 _).mono ?_); rintro e w1 ⟨rfl, B1⟩; obtain ⟨D1, D2, D3⟩ := kept2 B1; have HD := Lib.hid (And.intro D1 (And.intro D2 D3)); clear B1 D1 D2 D3 c55)
        | (refine wpList_put35 rfl _ _ rfl w.heap.size rfl HD.out.1 rfl ?_; intro w2 E1 G2; have E2 := (G2.block (w.heap.size + 1) (Array.getElem?_eq_some_iff.1 HD.out.2.1).1 (by simp)).trans HD.out.2.1; have HE := Lib.hid (And.intro E1 (And.intro E2 (HD.out.2.2.grown G2 HD.out.2.2.size (fun k h => by cases h; exact Nat.le_refl _)))); obtain ⟨p0, p1, p2, p3, p4, p5, p6, pf⟩ := row7 E1; clear E1 E2 G2 pf)
        | (go_at_call 49; (with_reducible refine (c49 w2 (Shf.Below.keep HE.out.2.2 T)).mono ?_); rintro e w5 ⟨rfl, rfl⟩; clear c49)
        | go_in)
      refine wp_region_noPanic ?_
      refine wp_region_held_drew (S := fun x : World => Below w.heap.size w x ∧ x.heap[w.heap.size]? = some (.cells #[.slice A1 n1 c1, .slice A2 n2 c2, .slice A3 n3 c3, .int .i64 room, .int .i64 left', .bool off, .int .i64 done'] 35)) (by kernel_rfl) ⟨HE.out.2.2.drew, HE.out.1⟩ (fun hHeld => ?_)
      refine wpAnyH_take (i := 0) (oi := { dst := some 33, op := Op.load 35 (Operand.tmp 3), type := 35, pos := "ref.go:195", after := #[], guard := none }) (v := .agg #[.slice A1 n1 c1, .slice A2 n2 c2, .slice A3 n3 c3, .int .i64 room, .int .i64 left', .bool off, .int .i64 done']) rfl (by kernel_rfl) (by kernel_rfl) (by kernel_rfl) (fun _ _ _ h => h) (Or.inl ⟨by rfl, fun w hSw => by obtain ⟨y0, y1, y2, y3, y4, y5, y6, -⟩ := row7 hSw.2; go_simp⟩) (by assumption) ?_
      try simp only [Act.put, List.setIfInBounds_toArray, List.set_cons_zero, List.set_cons_succ]
      refine wpAnyH_take (i := 1) (oi := { dst := some 34, op := Op.fieldAddr 35 (Operand.tmp 3) 1, type := 0, pos := "ref.go:195", after := #[], guard := none }) (v := .pointer (some ⟨w.heap.size, 1, none⟩)) rfl (by kernel_rfl) (by kernel_rfl) (by kernel_rfl) (fun _ _ _ h => h) (Or.inl ⟨by rfl, fun w hSw => by go_simp⟩) (by assumption) ?_
      try simp only [Act.put, List.setIfInBounds_toArray, List.set_cons_zero, List.set_cons_succ]
      refine wpAnyH_take (i := 2) (oi := { dst := some 35, op := Op.load 32 (Operand.tmp 34), type := 32, pos := "ref.go:195", after := #[{ on := 1, ground := Ground.data }], guard := none }) (v := .slice A2 n2 c2) rfl (by kernel_rfl) (by kernel_rfl) (by kernel_rfl) (fun _ _ _ h => h) (Or.inl ⟨by rfl, fun w hSw => by obtain ⟨y0, y1, y2, y3, y4, y5, y6, -⟩ := row7 hSw.2; go_simp⟩) (by assumption) ?_
      try simp only [Act.put, List.setIfInBounds_toArray, List.set_cons_zero, List.set_cons_succ]
      refine wpAnyH_take (i := 3) (oi := { dst := some 36, op := Op.move (Operand.tmp 1), type := 9, pos := "ref.go:195", after := #[], guard := none }) (v := .string nmv) rfl (by kernel_rfl) (by kernel_rfl) (by kernel_rfl) (fun _ _ _ h => h) (Or.inl ⟨by rfl, fun w hSw => by go_simp⟩) (by assumption) ?_
      try simp only [Act.put, List.setIfInBounds_toArray, List.set_cons_zero, List.set_cons_succ]
      refine wpAnyH_take (i := 5) (oi := { dst := some 38, op := Op.move (Operand.tmp 2), type := 9, pos := "ref.go:195", after := #[], guard := none }) (v := .string tov) rfl (by kernel_rfl) (by kernel_rfl) (by kernel_rfl) (fun _ _ _ h => h) (Or.inl ⟨by rfl, fun w hSw => by go_simp⟩) (by assumption) ?_
      try simp only [Act.put, List.setIfInBounds_toArray, List.set_cons_zero, List.set_cons_succ]
      refine wpAnyH_take (i := 6) (oi := { dst := some 39, op := Op.move (Operand.tmp 9), type := 3, pos := "ref.go:195", after := #[], guard := none }) (v := .int .i64 (f : Int)) rfl (by kernel_rfl) (by kernel_rfl) (by kernel_rfl) (fun _ _ _ h => h) (Or.inl ⟨by rfl, fun w hSw => by go_simp⟩) (by assumption) ?_
      try simp only [Act.put, List.setIfInBounds_toArray, List.set_cons_zero, List.set_cons_succ]
      refine wpAnyH_ready (rs := [4]) (by kernel_rfl) (by simp) ?_
      refine AllReadyH.cons (o := { dst := some 37, op := Op.call { callee := Callee.value (Operand.func 59), args := #[Operand.tmp 35, Operand.tmp 36], argTypes := #[32, 9] }, type := 32, pos := "ref.go:195", after := #[{ on := 2, ground := Ground.data }, { on := 3, ground := Ground.data }], guard := none }) rfl (fun K hK => ?_) AllReadyH.nil
      go_simp
      refine (c59 _ (Shf.Below.keep hHeld.1 T)).mono ?_
      rintro e w6 ⟨v1, rfl, O1, B1⟩
      have HO := Lib.hid (And.intro O1 B1)
      obtain ⟨A5, c5, rfl, -⟩ := own_sl (T := fun _ => .none) O1 (fun _ _ => rfl)
      have M6 := Lib.hid (own_nm O1 (fun b hb => HT.out b (Nat.le_trans HE.out.2.2.size hb)))
      refine hK.out _ _ (⟨hHeld.1.trans (HO.out.2.mono hHeld.1.size), (HO.out.2.block _ (Array.getElem?_eq_some_iff.1 hHeld.2).1).trans hHeld.2⟩) (fun hHeld => ?_)
      clear hK K
      try simp only [Act.put, List.setIfInBounds_toArray, List.set_cons_zero, List.set_cons_succ]
      have K6 : Hid (Below w.heap.size w w6) := hHeld.1
      clear O1 B1
      refine wpAnyH_ready (rs := [7]) (by kernel_rfl) (by simp) ?_
      refine AllReadyH.cons (o := { dst := some 40, op := Op.call { callee := Callee.value (Operand.func 57), args := #[Operand.tmp 37, Operand.tmp 38, Operand.tmp 39], argTypes := #[32, 9, 3] }, type := 32, pos := "ref.go:195", after := #[{ on := 4, ground := Ground.data }, { on := 5, ground := Ground.data }, { on := 6, ground := Ground.data }, { on := 4, ground := Ground.chain }], guard := none }) rfl (fun K hK => ?_) AllReadyH.nil
      go_simp
      refine (C57.out w6 (.slice A5 (wo now s).length c5) K6.out.size M6.out).mono ?_
      rintro e w8 ⟨v2, rfl, O2, B2⟩
      have HO2 := Lib.hid (And.intro O2 B2)
      obtain ⟨A7, c7, rfl, -⟩ := own_sl (T := fun _ => .none) O2 (fun _ _ => rfl)
      refine hK.out _ _ (⟨hHeld.1.trans (HO2.out.2.mono hHeld.1.size), (HO2.out.2.block _ (Array.getElem?_eq_some_iff.1 hHeld.2).1).trans hHeld.2⟩) (fun hHeld => ?_)
      clear hK K
      try simp only [Act.put, List.setIfInBounds_toArray, List.set_cons_zero, List.set_cons_succ]
      have K8 : Hid (Below w.heap.size w w8) := hHeld.1
      clear O2 B2
      refine wpAnyH_ready (rs := [8]) (by kernel_rfl) (by simp) ?_
      refine AllReadyH.cons (o := { dst := some 41, op := Op.call { callee := Callee.value (Operand.func 56), args := #[Operand.tmp 33, Operand.tmp 40], argTypes := #[35, 32] }, type := 35, pos := "ref.go:195", after := #[{ on := 0, ground := Ground.data }, { on := 7, ground := Ground.data }, { on := 7, ground := Ground.chain }], guard := none }) rfl (fun K hK => ?_) AllReadyH.nil
      go_simp
      refine (C56.out w8 (.slice A7 (wi (wo now s) t f).length c7) (Shf.Below.keep K8.out T) ⟨A7, _, c7, rfl⟩ left' done').mono ?_
      rintro e w7 ⟨wv', rfl, R7, B7⟩
      have N8 := (HO2.out.2.block _ (Nat.lt_of_lt_of_le (Array.getElem?_eq_some_iff.1 HE.out.2.1).1 HO.out.2.size)).trans ((HO.out.2.block _ (Array.getElem?_eq_some_iff.1 HE.out.2.1).1).trans HE.out.2.1)
      have N7 := (B7.block _ (Array.getElem?_eq_some_iff.1 N8).1).trans N8
      have HM := Lib.hid (And.intro R7 (And.intro B7 N7))
      obtain ⟨A6, c6, rfl, -⟩ := own_sl (T := fun _ => .none) R7 (fun _ _ => rfl)
      refine hK.out _ _ (⟨hHeld.1.trans (HM.out.2.1.mono hHeld.1.size), (HM.out.2.1.block _ (Array.getElem?_eq_some_iff.1 hHeld.2).1).trans hHeld.2⟩) (fun hHeld => ?_)
      clear hK K
      try simp only [Act.put, List.setIfInBounds_toArray, List.set_cons_zero, List.set_cons_succ]
      have B7 : Below w.heap.size w w7 := hHeld.1
      have X7 := hHeld.2
      clear R7 N7 N8
      refine wpAnyH_ready (rs := [9]) (by kernel_rfl) (by simp) ?_
      refine AllReadyH.cons (o := { dst := none, op := Op.store 35 (Operand.tmp 6) (Operand.tmp 41), type := 0, pos := "ref.go:195", after := #[{ on := 8, ground := Ground.data }, { on := 8, ground := Ground.chain }, { on := 0, ground := Ground.phase }, { on := 1, ground := Ground.phase }, { on := 2, ground := Ground.phase }, { on := 3, ground := Ground.phase }, { on := 4, ground := Ground.phase }, { on := 5, ground := Ground.phase }, { on := 6, ground := Ground.phase }, { on := 7, ground := Ground.phase }, { on := 8, ground := Ground.phase }], guard := none }) rfl (fun K hK => ?_) AllReadyH.nil
      obtain ⟨t0, t1, t2, t3, t4, t5, t6, tf⟩ := row7 HM.out.2.2
      go_simp
      refine hK.out _ _ (⟨set7_below B7 (by omega) .., (set7_block _ (by omega) ..).trans X7⟩) (fun hHeld => ?_)
      clear hK K
      try simp only [Act.put, List.setIfInBounds_toArray, List.set_cons_zero, List.set_cons_succ]
      refine wpAnyH_take (i := 10) (oi := { dst := some 7, op := Op.assign (Operand.const (Value.int IntKind.i64 0)), type := 3, pos := "ref.go:195", after := #[{ on := 9, ground := Ground.chain }, { on := 0, ground := Ground.phase }, { on := 1, ground := Ground.phase }, { on := 2, ground := Ground.phase }, { on := 3, ground := Ground.phase }, { on := 4, ground := Ground.phase }, { on := 5, ground := Ground.phase }, { on := 6, ground := Ground.phase }, { on := 7, ground := Ground.phase }, { on := 8, ground := Ground.phase }, { on := 9, ground := Ground.phase }], guard := none }) (v := .int IntKind.i64 0) rfl (by kernel_rfl) (by kernel_rfl) (by kernel_rfl) (fun _ _ _ h => h) (Or.inl ⟨by rfl, fun w hSw => by go_simp⟩) (by assumption) ?_
      try simp only [Act.put, List.setIfInBounds_toArray, List.set_cons_zero, List.set_cons_succ]
      refine wpAnyH_done (by kernel_rfl) ?_ _
      try unfold NoPanic
      go_wp2_with fail
      (try simp only [Exit.inBlock, Exit.then])
      refine bodyPost_ret (res35_tmp rfl _ _ (w.heap.size + 1) 35 _ (0, 0) rfl (put7 HM.out.2.2 ..) rfl) rfl ?_
      have hb2 : w.heap.size + 1 < w2.heap.size := (Array.getElem?_eq_some_iff.1 HE.out.2.1).1
      have hs6 : w2.heap.size ≤ w6.heap.size := HO.out.2.size
      have B8 := set7_below (b := w.heap.size + 1) B7 (by omega) (.slice A1 n1 c1) (.slice A7 (wi (wo now s) t f).length c7) (.slice A6 (ws.length + 1) c6) (.int .i64 room) (.int .i64 left') (.bool off) (.int .i64 done')
      exact ⟨_, rfl, ⟨_, _, _, fs, _, HR.out.move HT.out HO2.out.1 K6.out.size HM.out.1 HO2.out.2.size HM.out.2.1 B8 (fun b hb => set7_block _ (by omega) ..) room left' off done'⟩, B8⟩
end Go.Proofs.Ytkalgonkaoiapaa.Shf
