/- The document's own shelf: Create. -/
import Derived.Test.YtkalgonkaoiapaaRfm
namespace Go.Proofs.Ytkalgonkaoiapaa.Shf
open Go.ChangeShapes Go.WideShapes Go.ChangeAt Go.RowKit

theorem past2 {w2 w3 w4 : World} {Z : Obj} {e : TypeId} {sz n : Nat} {v1 : Value} {us : List Value} (h : w3.ownsRow w2.heap.size e sz v1 n us) (g1 : w2.grownBy w3 none) (g2 : (w3.alloc Z).grownBy w4 v1.ownBlock) : Below w2.heap.size w2 w4 := by
  have b3 : Below w2.heap.size w2 w3 := (Below.refl _ w2).grown g1 (Nat.le_refl _) (fun k h => by cases h)
  exact (b3.alloc b3.size Z).grown g2 (by have := b3.size; simp; omega) (fun k hk => (World.ownsRow.lt h k hk).1)
theorem put0 {w : World} {b : Nat} {t : TypeId} {x0 x1 x2 x3 x4 x5 x6 : Value} (h : w.heap[b]? = some (.cells #[x0, x1, x2, x3, x4, x5, x6] t)) (y : Value) : (w.setCell ⟨b, 0, none⟩ y).heap[b]? = some (.cells #[y, x1, x2, x3, x4, x5, x6] t) := by
  rw [heap_setCell_same w b 0 _ t y h]; rfl
theorem cells_two83 (w : World) (x y : Value) : ∀ j u, [x, y][j]? = some u → (w.alloc (.cells #[x, y] 83)).cell? ((⟨w.heap.size, 0, none⟩ : Addr).add j) = some u := by
  intro j u hj
  rw [zero_add', cell_of_row _ _ j _ 83 (0, 0) (alloc1 w _)]
  simpa using hj
theorem RX.create {w w4 w6 w7 w8 : World} {T : Nat → Tag} {v : Value} {x : X} {lv nv wv : Value} {fs : List (Value × Int)} {ws : List Value} (R : RX w T v x lv nv wv fs ws) {l : List (S × Nat)} {v1 wv' lv' : Value} {b4 b6 : Nat}
    (hT : ∀ b, w.heap.size ≤ b → T b = .none) (O4 : w4.ownsRow b4 83 2 lv' (fs.length + 1) (fs.flatMap filP ++ [.slice none 0 0, .int .i64 0])) (hb4 : w.heap.size ≤ b4) (h4 : ∀ b, b4 ≤ b → b < w4.heap.size → w8.heap[b]? = w4.heap[b]?)
    (O1 : w6.ownsRow b6 96 2 v1 l.length (l.flatMap nmP)) (hb6 : w.heap.size ≤ b6) (R7 : w7.ownsRow w6.heap.size 32 1 wv' (ws.length + 1) (ws ++ [v1])) (h6 : b6 ≤ w6.heap.size) (B7 : Below w6.heap.size w6 w7)
    (B8 : Below w.heap.size w w8) (h8 : ∀ b, b6 ≤ b → w8.heap[b]? = w7.heap[b]?) (room left : Int) (off : Bool) (done : Int) :
    RX w8 T (RfV lv' v1 wv' room left off done) ⟨x.L ++ [([], 0)], l, x.was ++ [l], room, left, off, done⟩ lv' v1 wv' (fs ++ [((.slice none 0 0 : Value), (0 : Int))]) (ws ++ [v1]) := by
  have M := R.move hT O1 hb6 R7 h6 B7 B8 h8 room left off done
  have f2 : RSl w8 T lv' 2 (fs ++ [((.slice none 0 0 : Value), (0 : Int))]).length ((fs ++ [((.slice none 0 0 : Value), (0 : Int))]).flatMap filP) := by
    rw [List.length_append, List.flatMap_append]
    exact own_sl (own_move O4 h4) (fun b hb => hT b (Nat.le_trans hb4 hb))
  exact ⟨rfl, f2, M.by_.app ⟨RSl.nil w8 T 1, rfl⟩, M.nm, M.wa, M.ol⟩

def X.create (x : X) (s : S) : X × Int := if nameOk s = true then (if x.stop then (x.act, 7) else match get x.now s with | some _ => (x.act, 9) | none => ({ x.act with L := x.L ++ [([], 0)], now := wi x.now s x.L.length, was := x.was ++ [wi x.now s x.L.length] }, 0)) else (x, 1)
set_option maxRecDepth 4000 in
set_option maxHeartbeats 2000000 in
theorem xcreate_any (w : World) (T : Nat → Tag) (v : Value) (x : X) (s : S) (h : RXE w T v x) (F : x.Fits) (hT : ∀ b, T b ≠ .none → b < w.heap.size) (hs1 : s.length ≤ 1000000) :
    Calls Try.prog 37 #[v, .string (str s)] w fun e w' =>
      ∃ v', e = .returned (.tuple #[v', .int .i64 (x.create s).2]) ∧ RXE w' T v' (x.create s).1 ∧ Below w.heap.size w w' := by
  obtain ⟨lv, nv, wv, fs, ws, R⟩ := h
  have c55 := fun W => xact_any W lv nv wv x.room x.left x.off x.done R.fl.sl R.nm.isSl R.wa.sl F.done F.left
  have c28 := fun W => right_any W s hs1
  clear hs1
  have c49 := fun W (K : Keep w T W T) => find_any W T nv x.now s (R.nm.keep K) F.now
  have HR := Lib.hid R
  have HT := Lib.hid (fun b (hb : w.heap.size ≤ b) => show T b = .none by
    cases e : T b with
    | none => rfl
    | _ => exact absurd (hT b (by rw [e]; intro h; cases h)) (by omega))
  have HF := Lib.hid F
  obtain ⟨A1, n1, c1, e1⟩ := R.fl.sl
  obtain ⟨A2, n2, c2, e2⟩ := R.nm.isSl
  obtain ⟨A3, n3, c3, e3⟩ := R.wa.sl
  rw [R.eq]
  clear R hT F
  subst e1 e2 e3
  obtain ⟨L, now, was, room, left, off, done⟩ := x
  have hfsl : fs.length = L.length := HR.out.by_.len
  have hLl : L.length ≤ 1000000 := HF.out.fl
  simp only at c55 c49 ⊢
  unfold RfV at c55 ⊢
  obtain ⟨nmv, hnmv⟩ : ∃ n, n = str s := ⟨_, rfl⟩
  rw [← hnmv] at c28 c49 ⊢
  have HS := Lib.hid hnmv
  clear hnmv
  by_cases hr : nameOk s = true
  case neg =>
    rw [show (X.mk L now was room left off done).create s = (_, 1) from if_neg hr]
    rw [show nameOk s = false by simpa using hr] at c28
    clear hr c49 c55 hfsl
    go_enter Try.func37, Try.ntmps37
    go_wp2_with (first
      | (go_at_call 28; (with_reducible refine (c28 _).mono ?_); rintro e w5 ⟨rfl, rfl⟩; clear c28)
      | (refine wpList_put35 (x0 := .slice none 0 0) (x1 := .slice none 0 0) (x2 := .slice none 0 0) (x3 := .int .i64 0) (x4 := .int .i64 0) (x5 := .bool false) (x6 := .int .i64 0) rfl _ _ rfl (w.heap.size + 1) rfl (heap_alloc2_new w _ _) rfl ?_; intro w3 E3 G3; have HH := Lib.hid (And.intro E3 ((below2 w _ _).grown G3 (by simp; omega) (fun k h => by cases h; omega))); clear E3 G3)
      | go_in)
    (try simp only [Exit.inBlock, Exit.then])
    refine bodyPost_ret (res35_tmp rfl _ _ (w.heap.size + 1) 35 _ (0, 0) rfl HH.out.1 rfl) rfl ?_
    exact ⟨_, rfl, ⟨_, _, _, fs, ws, { HR.out.keep (Shf.Below.keep HH.out.2 T) with eq := rfl }⟩, HH.out.2⟩
  rw [hr] at c28
  by_cases hs : off = true ∨ left = 0
  · have hs' : (X.mk L now was room left off done).stop := hs
    have HA : Hid ((X.mk L now was room left off done).act = ⟨L, now, was, room, left, true, done⟩) := if_pos hs'
    rw [show (X.mk L now was room left off done).create s = (_, 7) from (if_pos hr).trans (if_pos hs'), HA.out]
    rw [if_pos hs, decide_eq_true hs] at c55
    clear hs hs' HA c49 hr hfsl
    go_enter Try.func37, Try.ntmps37
    go_wp2_with (first
      | (go_at_call 28; (with_reducible refine (c28 _).mono ?_); rintro e w5 ⟨rfl, rfl⟩; clear c28)
      | (go_at_call 55; (with_reducible refine (c55 _).mono ?_); rintro e w1 ⟨rfl, B1⟩; obtain ⟨D1, D2, D3⟩ := kept2 B1; have HD := Lib.hid (And.intro D1 (And.intro D2 D3)); clear B1 D1 D2 D3 c55)
      | (refine wpList_put35 rfl _ _ rfl w.heap.size rfl HD.out.1 rfl ?_; intro w2 E1 G2; have E2 := (G2.block (w.heap.size + 1) (Array.getElem?_eq_some_iff.1 HD.out.2.1).1 (by simp)).trans HD.out.2.1; have HE := Lib.hid (And.intro E1 (And.intro E2 (HD.out.2.2.grown G2 HD.out.2.2.size (fun k h => by cases h; exact Nat.le_refl _)))); obtain ⟨p0, p1, p2, p3, p4, p5, p6, pf⟩ := row7 E1; clear E1 E2 G2 pf)
      | (refine wpList_put35 rfl _ _ rfl (w.heap.size + 1) rfl HE.out.2.1 rfl ?_; intro w3 E3 G3; have HH := Lib.hid (And.intro E3 (HE.out.2.2.grown G3 HE.out.2.2.size (fun k h => by cases h; omega))); clear E3 G3 p0 p1 p2 p3 p4 p5 p6)
      | go_in)
    (try simp only [Exit.inBlock, Exit.then])
    refine bodyPost_ret (res35_tmp rfl _ _ (w.heap.size + 1) 35 _ (0, 0) rfl HH.out.1 rfl) rfl ?_
    exact ⟨_, rfl, ⟨_, _, _, fs, ws, { HR.out.keep (Shf.Below.keep HH.out.2 T) with eq := rfl }⟩, HH.out.2⟩
  · have hs' : ¬ (X.mk L now was room left off done).stop := hs
    have HA : Hid ((X.mk L now was room left off done).act = ⟨L, now, was, room, (if 0 < left then left - 1 else left), off, done + 1⟩) := if_neg hs'
    rw [if_neg hs, decide_eq_false hs] at c55
    cases hg : get now s with
    | some f =>
      rw [show (X.mk L now was room left off done).create s = (_, 9) from (if_pos hr).trans ((if_neg hs').trans (by rw [hg])), HA.out]
      rw [show findI now s = (f : Int) by unfold findI; rw [hg]] at c49
      generalize (if 0 < left then left - 1 else left) = left' at *
      generalize done + 1 = done' at *
      have hf0 : (f : Int) ≥ 0 := by omega
      have hf00 : (0 : Int) ≤ f := by omega
      clear hs hs' HA hg hr hfsl
      go_enter Try.func37, Try.ntmps37
      go_wp2_with (first
        | (go_at_call 28; (with_reducible refine (c28 _).mono ?_); rintro e w5 ⟨rfl, rfl⟩; clear c28)
        | (go_at_call 55; (with_reducible refine (c55 _).mono ?_); rintro e w1 ⟨rfl, B1⟩; obtain ⟨D1, D2, D3⟩ := kept2 B1; have HD := Lib.hid (And.intro D1 (And.intro D2 D3)); clear B1 D1 D2 D3 c55)
        | (refine wpList_put35 rfl _ _ rfl w.heap.size rfl HD.out.1 rfl ?_; intro w2 E1 G2; have E2 := (G2.block (w.heap.size + 1) (Array.getElem?_eq_some_iff.1 HD.out.2.1).1 (by simp)).trans HD.out.2.1; have HE := Lib.hid (And.intro E1 (And.intro E2 (HD.out.2.2.grown G2 HD.out.2.2.size (fun k h => by cases h; exact Nat.le_refl _)))); obtain ⟨p0, p1, p2, p3, p4, p5, p6, pf⟩ := row7 E1; clear E1 E2 G2 pf)
        | (go_at_call 49; (with_reducible refine (c49 w2 (Shf.Below.keep HE.out.2.2 T)).mono ?_); rintro e w5 ⟨rfl, rfl⟩; clear c49)
        | (refine wpList_put35 rfl _ _ rfl (w.heap.size + 1) rfl HE.out.2.1 rfl ?_; intro w3 E3 G3; have HH := Lib.hid (And.intro E3 (HE.out.2.2.grown G3 HE.out.2.2.size (fun k h => by cases h; omega))); clear E3 G3 p0 p1 p2 p3 p4 p5 p6)
        | go_in)
      (try simp only [Exit.inBlock, Exit.then])
      refine bodyPost_ret (res35_tmp rfl _ _ (w.heap.size + 1) 35 _ (0, 0) rfl HH.out.1 rfl) rfl ?_
      exact ⟨_, rfl, ⟨_, _, _, fs, ws, { HR.out.keep (Shf.Below.keep HH.out.2 T) with eq := rfl }⟩, HH.out.2⟩
    | none =>
      rw [show findI now s = -1 by unfold findI; rw [hg]] at c49
      generalize (if 0 < left then left - 1 else left) = left' at *
      generalize done + 1 = done' at *
      rw [show (X.mk L now was room left off done).create s = (_, 0) from (if_pos hr).trans ((if_neg hs').trans (by rw [hg])), HA.out]
      obtain ⟨i0, hi, hz0, hz1, hz2⟩ := info_parts info83
      have HI := Lib.hid (And.intro hi (And.intro hz0 (And.intro hz1 hz2)))
      have HW := Lib.hid (fil_one (HR.out.by_.left (P := fun p : Value × Int => isSl p.1) fun a b h => h.1.sl))
      obtain ⟨A1', c1', e1', hc1, hA1, hlen1, _⟩ := HR.out.fl
      injection e1' with ea eb ec
      subst ea eb ec
      have HFL := Lib.hid HR.out.fl
      obtain ⟨n, hn⟩ : ∃ n, n = L.length := ⟨_, rfl⟩
      obtain ⟨n5, hn5⟩ : ∃ n5, n5 = n + 1 := ⟨_, rfl⟩
      have hTW : ∀ W : World, w.heap.size ≤ W.heap.size → ∀ b, T b ≠ .none → b < W.heap.size := fun W hW b hb => by
        rcases Nat.lt_or_ge b w.heap.size with h | h
        · exact Nat.lt_of_lt_of_le h hW
        · exact absurd (HT.out b h) hb
      have c57 := fun W (K : Keep w T W T) => with_own W T (.slice A2 n2 c2) now s n (HR.out.nm.keep K) HF.out.now (hTW W K.size)
      rw [← HS.out] at c57
      have hws := HR.out.ol.left (P := isSl) (fun a b r => r.isSl)
      have hwl := HR.out.ol.len
      have hwn := HF.out.was
      have c56 := fun W v0 v1 (K : Keep w T W T) (hv0 : isSl v0) (hv : isSl v1) l' d' => moved_any W T v0 (.slice A2 n2 c2) (.slice A3 n3 c3) v1 room l' off d' ws.length ws hv0 ⟨A2, n2, c2, rfl⟩ hv (HR.out.wa.keep K) hws (by rw [hwl]; exact hwn) (hTW W K.size)
      unfold RfV at c56
      have C56 : Hid _ := c56
      have C57 : Hid _ := c57
      rw [← hn] at hfsl hLl ⊢
      rw [hfsl] at c55 HFL ⊢
      have hn51 : (n5 : Int) - 1 = (n : Int) := by omega
      have hnw : IntKind.i64.wrap (n : Int) = (n : Int) := by rw [IntKind.wrap_i64]; omega
      have HN5 := Lib.hid hn5
      have HN := Lib.hid hn
      have HFS := Lib.hid hfsl
      clear hs hs' HA hg hws hwl hwn hr hTW c56 c57 hi hz0 hz1 hz2 hlen1 hA1 hn5 hn hfsl
      go_enter Try.func37, Try.ntmps37
      go_wp2_with (first
        | (go_at_call 28; (with_reducible refine (c28 _).mono ?_); rintro e w5 ⟨rfl, rfl⟩; clear c28)
        | (go_at_call 55; (with_reducible refine (c55 _).mono ?_); rintro e w1 ⟨rfl, B1⟩; obtain ⟨D1, D2, D3⟩ := kept2 B1; have HD := Lib.hid (And.intro D1 (And.intro D2 D3)); clear B1 D1 D2 D3 c55)
        | (refine wpList_put35 rfl _ _ rfl w.heap.size rfl HD.out.1 rfl ?_; intro w2 E1 G2; have E2 := (G2.block (w.heap.size + 1) (Array.getElem?_eq_some_iff.1 HD.out.2.1).1 (by simp)).trans HD.out.2.1; have HE := Lib.hid (And.intro E1 (And.intro E2 (HD.out.2.2.grown G2 HD.out.2.2.size (fun k h => by cases h; exact Nat.le_refl _)))); obtain ⟨p0, p1, p2, p3, p4, p5, p6, pf⟩ := row7 E1; clear E1 E2 G2 pf)
        | (go_at_call 49; (with_reducible refine (c49 w2 (Shf.Below.keep HE.out.2.2 T)).mono ?_); rintro e w5 ⟨rfl, rfl⟩; clear c49)
        | (at_builtin; refine wpList_app T rfl _ _ 31 rfl w2.heap.size 83 i0 _ 2 32 Try.underlying31 HI.out.1 HI.out.2.1 HI.out.2.2.1 HI.out.2.2.2 rfl (by decide) (.slice none 0 0) 0 [] rfl ⟨rfl, Or.inl ⟨rfl, rfl⟩⟩ _ n _ rfl (HFL.out.keep (Shf.Below.keep HE.out.2.2 T)) HW.out (by unfold maxLen; omega) (by omega) (Nat.le_refl _) ?_; intro v1 w3 own1 grow1; rw [Nat.zero_add, List.nil_append] at own1; obtain ⟨A4, c4, rfl, -⟩ := own_sl (T := fun _ => .none) own1 (fun _ _ => rfl); have HO := Lib.hid (And.intro own1 grow1); have s3 : w2.heap.size ≤ w3.heap.size := grow1.size; clear own1 grow1)
        | (at_builtin; refine wpList_append_own_at _ rfl _ _ 31 rfl w2.heap.size 83 i0 _ 2 32 Try.underlying31 HI.out.1 HI.out.2.1 HI.out.2.2.1 HI.out.2.2.2 rfl (by decide) (.slice A4 n c4) _ _ rfl (HO.out.1.alloc _) ⟨w3.heap.size, 0, none⟩ 1 1 [.slice none 0 0, .int .i64 0] rfl rfl (cells_two83 _ _ _) (by intro u hu; simp at hu; rcases hu with rfl | rfl <;> rfl) (by unfold maxLen; omega) (by omega) (by simp; omega) ?_; intro v2 w4 own2 grow2 nil2 at2; have b4 := past2 HO.out.1 HO.out.2 grow2; rw [← HN5.out] at own2; obtain ⟨A5, c5, rfl, -⟩ := own_sl (T := fun _ => .none) own2 (fun _ _ => rfl); have N4 := (b4.block _ (Array.getElem?_eq_some_iff.1 HE.out.1).1).trans HE.out.1; obtain ⟨q0, q1, q2, q3, q4, q5, q6, qf⟩ := row7 N4; have HO4 := Lib.hid (And.intro own2 (And.intro b4 N4)); clear own2 grow2 nil2 at2 b4 N4 p0 p1 p2 p3 p4 p5 p6)
        | go_in)
      have b5 : Below w.heap.size w (w4.setCell ⟨w.heap.size, 0, none⟩ (.slice A5 n5 c5)) := (HE.out.2.2.trans (HO4.out.2.1.mono HE.out.2.2.size)).setCell (Nat.le_refl _) _
      have N5 := put0 HO4.out.2.2 (.slice A5 n5 c5)
      have hs5 : w4.heap.size = (w4.setCell ⟨w.heap.size, 0, none⟩ (.slice A5 n5 c5)).heap.size := by simp
      have hk5 : ∀ b, w2.heap.size ≤ b → (w4.setCell ⟨w.heap.size, 0, none⟩ (.slice A5 n5 c5)).heap[b]? = w4.heap[b]? := fun b hb => Below.heap_setCell _ _ _ _ (by have := (Array.getElem?_eq_some_iff.1 HE.out.1).1; simp; omega)
      have M5 : (w4.setCell ⟨w.heap.size, 0, none⟩ (.slice A5 n5 c5)).heap[w.heap.size + 1]? = some (.cells #[.slice none 0 0, .slice none 0 0, .slice none 0 0, .int .i64 0, .int .i64 0, .bool false, .int .i64 0] 35) := (Below.heap_setCell _ _ _ _ (by simp)).trans ((HO4.out.2.1.block _ (Array.getElem?_eq_some_iff.1 HE.out.2.1).1).trans HE.out.2.1)
      generalize w4.setCell ⟨w.heap.size, 0, none⟩ (.slice A5 n5 c5) = w5 at *
      refine wp_region_noPanic ?_
      refine wp_region_held_drew (S := fun x : World => Below w.heap.size w x ∧ x.heap[w.heap.size]? = some (.cells #[.slice A5 n5 c5, .slice A2 n2 c2, .slice A3 n3 c3, .int .i64 room, .int .i64 left', .bool off, .int .i64 done'] 35)) (by kernel_rfl) ⟨b5.drew, N5⟩ (fun hHeld => ?_)
      refine wpAnyH_take (i := 0) (oi := { dst := some 35, op := Op.load 35 (Operand.tmp 2), type := 35, pos := "ref.go:131", after := #[], guard := none }) (v := .agg #[.slice A5 n5 c5, .slice A2 n2 c2, .slice A3 n3 c3, .int .i64 room, .int .i64 left', .bool off, .int .i64 done']) rfl (by kernel_rfl) (by kernel_rfl) (by kernel_rfl) (fun _ _ _ h => h) (Or.inl ⟨by rfl, fun w hSw => by obtain ⟨y0, y1, y2, y3, y4, y5, y6, -⟩ := row7 hSw.2; go_simp⟩) (by assumption) ?_
      try simp only [Act.put, List.setIfInBounds_toArray, List.set_cons_zero, List.set_cons_succ]
      refine wpAnyH_take (i := 1) (oi := { dst := some 36, op := Op.fieldAddr 35 (Operand.tmp 2) 1, type := 0, pos := "ref.go:131", after := #[], guard := none }) (v := .pointer (some ⟨w.heap.size, 1, none⟩)) rfl (by kernel_rfl) (by kernel_rfl) (by kernel_rfl) (fun _ _ _ h => h) (Or.inl ⟨by rfl, fun w hSw => by go_simp⟩) (by assumption) ?_
      try simp only [Act.put, List.setIfInBounds_toArray, List.set_cons_zero, List.set_cons_succ]
      refine wpAnyH_take (i := 2) (oi := { dst := some 37, op := Op.load 32 (Operand.tmp 36), type := 32, pos := "ref.go:131", after := #[{ on := 1, ground := Ground.data }], guard := none }) (v := .slice A2 n2 c2) rfl (by kernel_rfl) (by kernel_rfl) (by kernel_rfl) (fun _ _ _ h => h) (Or.inl ⟨by rfl, fun w hSw => by obtain ⟨y0, y1, y2, y3, y4, y5, y6, -⟩ := row7 hSw.2; go_simp⟩) (by assumption) ?_
      try simp only [Act.put, List.setIfInBounds_toArray, List.set_cons_zero, List.set_cons_succ]
      refine wpAnyH_take (i := 3) (oi := { dst := some 38, op := Op.move (Operand.tmp 1), type := 9, pos := "ref.go:131", after := #[], guard := none }) (v := .string nmv) rfl (by kernel_rfl) (by kernel_rfl) (by kernel_rfl) (fun _ _ _ h => h) (Or.inl ⟨by rfl, fun w hSw => by go_simp⟩) (by assumption) ?_
      try simp only [Act.put, List.setIfInBounds_toArray, List.set_cons_zero, List.set_cons_succ]
      refine wpAnyH_take (i := 4) (oi := { dst := some 39, op := Op.fieldAddr 35 (Operand.tmp 2) 0, type := 0, pos := "ref.go:131", after := #[], guard := none }) (v := .pointer (some ⟨w.heap.size, 0, none⟩)) rfl (by kernel_rfl) (by kernel_rfl) (by kernel_rfl) (fun _ _ _ h => h) (Or.inl ⟨by rfl, fun w hSw => by go_simp⟩) (by assumption) ?_
      try simp only [Act.put, List.setIfInBounds_toArray, List.set_cons_zero, List.set_cons_succ]
      refine wpAnyH_take (i := 5) (oi := { dst := some 40, op := Op.load 31 (Operand.tmp 39), type := 31, pos := "ref.go:131", after := #[{ on := 4, ground := Ground.data }], guard := none }) (v := .slice A5 n5 c5) rfl (by kernel_rfl) (by kernel_rfl) (by kernel_rfl) (fun _ _ _ h => h) (Or.inl ⟨by rfl, fun w hSw => by obtain ⟨y0, y1, y2, y3, y4, y5, y6, -⟩ := row7 hSw.2; go_simp⟩) (by assumption) ?_
      try simp only [Act.put, List.setIfInBounds_toArray, List.set_cons_zero, List.set_cons_succ]
      refine wpAnyH_take (i := 6) (oi := { dst := some 41, op := Op.call { callee := Callee.builtin Builtin.len, args := #[Operand.tmp 40], argTypes := #[31] }, type := 3, pos := "ref.go:131", after := #[{ on := 5, ground := Ground.data }], guard := none }) (v := .int .i64 (n5 : Int)) rfl (by kernel_rfl) (by kernel_rfl) (by kernel_rfl) (fun _ _ _ h => h) (Or.inl ⟨by rfl, fun w hSw => by go_simp⟩) (by assumption) ?_
      try simp only [Act.put, List.setIfInBounds_toArray, List.set_cons_zero, List.set_cons_succ]
      refine wpAnyH_take (i := 7) (oi := { dst := some 42, op := Op.binOp BinOp.sub 3 (Operand.tmp 41) (Operand.const (Value.int IntKind.i64 1)) 3, type := 3, pos := "ref.go:131", after := #[{ on := 6, ground := Ground.data }], guard := none }) (v := .int .i64 (n : Int)) rfl (by kernel_rfl) (by kernel_rfl) (by kernel_rfl) (fun _ _ _ h => h) (Or.inl ⟨by rfl, fun w hSw => by go_simp⟩) (by assumption) ?_
      try simp only [Act.put, List.setIfInBounds_toArray, List.set_cons_zero, List.set_cons_succ]
      refine wpAnyH_ready (rs := [8]) (by kernel_rfl) (by simp) ?_
      refine AllReadyH.cons (o := { dst := some 43, op := Op.call { callee := Callee.value (Operand.func 57), args := #[Operand.tmp 37, Operand.tmp 38, Operand.tmp 42], argTypes := #[32, 9, 3] }, type := 32, pos := "ref.go:131", after := #[{ on := 2, ground := Ground.data }, { on := 3, ground := Ground.data }, { on := 7, ground := Ground.data }], guard := none }) rfl (fun K hK => ?_) AllReadyH.nil
      go_simp
      refine (C57.out _ (Shf.Below.keep hHeld.1 T)).mono ?_
      rintro e w8 ⟨v2, rfl, O2, B2⟩
      have HO2 := Lib.hid (And.intro O2 B2)
      obtain ⟨A7, c7, rfl, -⟩ := own_sl (T := fun _ => .none) O2 (fun _ _ => rfl)
      refine hK.out _ _ (⟨hHeld.1.trans (HO2.out.2.mono hHeld.1.size), (HO2.out.2.block _ (Array.getElem?_eq_some_iff.1 hHeld.2).1).trans hHeld.2⟩) (fun hHeld => ?_)
      clear hK K
      try simp only [Act.put, List.setIfInBounds_toArray, List.set_cons_zero, List.set_cons_succ]
      have K8 : Hid (Below w.heap.size w w8) := hHeld.1
      clear O2 B2
      refine wpAnyH_ready (rs := [9]) (by kernel_rfl) (by simp) ?_
      refine AllReadyH.cons (o := { dst := some 44, op := Op.call { callee := Callee.value (Operand.func 56), args := #[Operand.tmp 35, Operand.tmp 43], argTypes := #[35, 32] }, type := 35, pos := "ref.go:131", after := #[{ on := 0, ground := Ground.data }, { on := 8, ground := Ground.data }, { on := 8, ground := Ground.chain }], guard := none }) rfl (fun K hK => ?_) AllReadyH.nil
      go_simp
      refine (C56.out w8 (.slice A5 n5 c5) (.slice A7 (wi now s n).length c7) (Shf.Below.keep K8.out T) ⟨A5, _, c5, rfl⟩ ⟨A7, _, c7, rfl⟩ left' done').mono ?_
      rintro e w7 ⟨wv', rfl, R7, B7⟩
      have N8 := (HO2.out.2.block _ (Array.getElem?_eq_some_iff.1 M5).1).trans M5
      have N7 := (B7.block _ (Array.getElem?_eq_some_iff.1 N8).1).trans N8
      have HM := Lib.hid (And.intro R7 (And.intro B7 N7))
      obtain ⟨A6, c6, rfl, -⟩ := own_sl (T := fun _ => .none) R7 (fun _ _ => rfl)
      refine hK.out _ _ (⟨hHeld.1.trans (HM.out.2.1.mono hHeld.1.size), (HM.out.2.1.block _ (Array.getElem?_eq_some_iff.1 hHeld.2).1).trans hHeld.2⟩) (fun hHeld => ?_)
      clear hK K
      try simp only [Act.put, List.setIfInBounds_toArray, List.set_cons_zero, List.set_cons_succ]
      have B7 : Below w.heap.size w w7 := hHeld.1
      have X7 := hHeld.2
      clear R7 N7 N8
      refine wpAnyH_ready (rs := [10]) (by kernel_rfl) (by simp) ?_
      refine AllReadyH.cons (o := { dst := none, op := Op.store 35 (Operand.tmp 4) (Operand.tmp 44), type := 0, pos := "ref.go:131", after := #[{ on := 9, ground := Ground.data }, { on := 9, ground := Ground.chain }, { on := 0, ground := Ground.phase }, { on := 1, ground := Ground.phase }, { on := 2, ground := Ground.phase }, { on := 3, ground := Ground.phase }, { on := 4, ground := Ground.phase }, { on := 5, ground := Ground.phase }, { on := 6, ground := Ground.phase }, { on := 7, ground := Ground.phase }, { on := 8, ground := Ground.phase }, { on := 9, ground := Ground.phase }], guard := none }) rfl (fun K hK => ?_) AllReadyH.nil
      obtain ⟨t0, t1, t2, t3, t4, t5, t6, tf⟩ := row7 HM.out.2.2
      go_simp
      refine hK.out _ _ (⟨set7_below B7 (by omega) .., (set7_block _ (by omega) ..).trans X7⟩) (fun hHeld => ?_)
      clear hK K
      try simp only [Act.put, List.setIfInBounds_toArray, List.set_cons_zero, List.set_cons_succ]
      refine wpAnyH_take (i := 11) (oi := { dst := some 5, op := Op.assign (Operand.const (Value.int IntKind.i64 0)), type := 3, pos := "ref.go:131", after := #[{ on := 10, ground := Ground.chain }, { on := 0, ground := Ground.phase }, { on := 1, ground := Ground.phase }, { on := 2, ground := Ground.phase }, { on := 3, ground := Ground.phase }, { on := 4, ground := Ground.phase }, { on := 5, ground := Ground.phase }, { on := 6, ground := Ground.phase }, { on := 7, ground := Ground.phase }, { on := 8, ground := Ground.phase }, { on := 9, ground := Ground.phase }, { on := 10, ground := Ground.phase }], guard := none }) (v := .int IntKind.i64 0) rfl (by kernel_rfl) (by kernel_rfl) (by kernel_rfl) (fun _ _ _ h => h) (Or.inl ⟨by rfl, fun w hSw => by go_simp⟩) (by assumption) ?_
      try simp only [Act.put, List.setIfInBounds_toArray, List.set_cons_zero, List.set_cons_succ]
      refine wpAnyH_done (by kernel_rfl) ?_ _
      try unfold NoPanic
      go_wp2_with fail
      (try simp only [Exit.inBlock, Exit.then])
      refine bodyPost_ret (res35_tmp rfl _ _ (w.heap.size + 1) 35 _ (0, 0) rfl (put7 HM.out.2.2 ..) rfl) rfl ?_
      have hb2 : w.heap.size + 1 < w2.heap.size := (Array.getElem?_eq_some_iff.1 HE.out.2.1).1
      have hs4 : w2.heap.size ≤ w4.heap.size := HO4.out.2.1.size
      have hs8 : w5.heap.size ≤ w8.heap.size := HO2.out.2.size
      have B8 := set7_below (b := w.heap.size + 1) B7 (by omega) (.slice A5 n5 c5) (.slice A7 (wi now s n).length c7) (.slice A6 (ws.length + 1) c6) (.int .i64 room) (.int .i64 left') (.bool off) (.int .i64 done')
      have O4 : w4.ownsRow w2.heap.size 83 2 (.slice A5 n5 c5) (fs.length + 1) (fs.flatMap filP ++ [.slice none 0 0, .int .i64 0]) := by
        rw [HFS.out, ← HN5.out]; exact HO4.out.1
      exact ⟨_, rfl, ⟨_, _, _, _, _, HR.out.create HT.out O4 HE.out.2.2.size (fun b h1 h2 => (set7_block _ (by omega) ..).trans ((HM.out.2.1.block b (by omega)).trans ((HO2.out.2.block b (by show b < w5.heap.size; omega)).trans (hk5 b h1)))) HO2.out.1 b5.size HM.out.1 HO2.out.2.size HM.out.2.1 B8 (fun b hb => set7_block _ (by have : w5.heap.size ≤ b := hb; omega) ..) room left' off done'⟩, B8⟩
end Go.Proofs.Ytkalgonkaoiapaa.Shf
