/- The document's own shelf: one less name. -/
import Derived.Test.YtkalgonkaoiapaaRff
namespace Go.Proofs.Ytkalgonkaoiapaa.Shf
open Go.ChangeShapes Go.WideShapes Go.ChangeAt Go.RowKit

theorem own_move {w w' : World} {B : Nat} {e : TypeId} {sz n : Nat} {v : Value} {us : List Value} (h : w.ownsRow B e sz v n us) (k : ∀ b, B ≤ b → b < w.heap.size → w'.heap[b]? = w.heap[b]?) : w'.ownsRow B e sz v n us :=
  ⟨h.1, h.2.imp id fun ⟨g, cap, cur, h1, h2, h3, h4⟩ => ⟨g, cap, cur, h1, h2, (k g h2 (Array.getElem?_eq_some_iff.1 h3).1).trans h3, h4⟩⟩
theorem set7_block (w : World) {b k : Nat} (hk : k ≠ b) (y0 y1 y2 y3 y4 y5 y6 : Value) :
    (((((((w.setCell ⟨b, 0, none⟩ y0).setCell ⟨b, 1, none⟩ y1).setCell ⟨b, 2, none⟩ y2).setCell ⟨b, 3, none⟩ y3).setCell ⟨b, 4, none⟩ y4).setCell ⟨b, 5, none⟩ y5).setCell ⟨b, 6, none⟩ y6).heap[k]? = w.heap[k]? :=
  (Below.heap_setCell _ _ _ _ hk).trans ((Below.heap_setCell _ _ _ _ hk).trans ((Below.heap_setCell _ _ _ _ hk).trans ((Below.heap_setCell _ _ _ _ hk).trans ((Below.heap_setCell _ _ _ _ hk).trans ((Below.heap_setCell _ _ _ _ hk).trans (Below.heap_setCell _ _ _ _ hk))))))
/-- Names moved: what is told of the shelf then. -/
theorem RX.move {w w6 w7 w8 : World} {T : Nat → Tag} {v : Value} {x : X} {lv nv wv : Value} {fs : List (Value × Int)} {ws : List Value} (R : RX w T v x lv nv wv fs ws) {l : List (S × Nat)} {v1 wv' : Value} {b6 : Nat}
    (hT : ∀ b, w.heap.size ≤ b → T b = .none) (O1 : w6.ownsRow b6 96 2 v1 l.length (l.flatMap nmP)) (hb6 : w.heap.size ≤ b6) (R7 : w7.ownsRow w6.heap.size 32 1 wv' (ws.length + 1) (ws ++ [v1])) (h6 : b6 ≤ w6.heap.size) (B7 : Below w6.heap.size w6 w7)
    (B8 : Below w.heap.size w w8) (h8 : ∀ b, b6 ≤ b → w8.heap[b]? = w7.heap[b]?) (room left : Int) (off : Bool) (done : Int) :
    RX w8 T (RfV lv v1 wv' room left off done) ⟨x.L, l, x.was ++ [l], room, left, off, done⟩ lv v1 wv' fs (ws ++ [v1]) := by
  have R8 := R.keep (Shf.Below.keep B8 T)
  have n1 : RNm w8 T v1 l := own_nm (own_move O1 fun b h1 h2 => (h8 b h1).trans (B7.block b h2)) (fun b hb => hT b (Nat.le_trans hb6 hb))
  have n2 : RSl w8 T wv' 1 (ws ++ [v1]).length (ws ++ [v1]) := by
    rw [List.length_append]
    exact own_sl (own_move R7 fun b h1 h2 => h8 b (Nat.le_trans h6 h1)) (fun b hb => hT b (Nat.le_trans hb6 (Nat.le_trans h6 hb)))
  exact ⟨rfl, R8.fl, R8.by_, n1, n2, R8.ol.app n1⟩

def X.delete (x : X) (s : S) : X × Int := if x.stop then (x.act, 7) else if get x.now s = none then (x.act, 2) else ({ x.act with now := wo x.now s, was := x.was ++ [wo x.now s] }, 0)
set_option maxRecDepth 4000 in
set_option maxHeartbeats 2000000 in
theorem xdelete_any (w : World) (T : Nat → Tag) (v : Value) (x : X) (s : S) (h : RXE w T v x) (F : x.Fits) (hT : ∀ b, T b ≠ .none → b < w.heap.size) :
    Calls Try.prog 42 #[v, .string (str s)] w fun e w' =>
      ∃ v', e = .returned (.tuple #[v', .int .i64 (x.delete s).2]) ∧ RXE w' T v' (x.delete s).1 ∧ Below w.heap.size w w' := by
  obtain ⟨lv, nv, wv, fs, ws, R⟩ := h
  have c55 := fun W => xact_any W lv nv wv x.room x.left x.off x.done R.fl.sl R.nm.isSl R.wa.sl F.done F.left
  have c49 := fun W (K : Keep w T W T) => find_any W T nv x.now s (R.nm.keep K) F.now
  have HR := Lib.hid R
  have HT := Lib.hid (fun b (hb : w.heap.size ≤ b) => show T b = .none by
    cases e : T b with
    | none => rfl
    | _ => exact absurd (hT b (by rw [e]; intro h; cases h)) (by omega))
  have HF := Lib.hid F
  obtain ⟨A1, n1, c1, e1⟩ := R.fl.sl
  obtain ⟨A2, n2, c2, e2⟩ := R.nm.isSl
  obtain ⟨A3, n3, c3, e3⟩ := R.wa.sl
  rw [R.eq]
  clear R hT F
  subst e1 e2 e3
  obtain ⟨L, now, was, room, left, off, done⟩ := x
  simp only at c55 c49 ⊢
  unfold RfV at c55 ⊢
  obtain ⟨nmv, hnmv⟩ : ∃ n, n = str s := ⟨_, rfl⟩
  rw [← hnmv] at c49 ⊢
  have HS := Lib.hid hnmv
  clear hnmv
  by_cases hs : off = true ∨ left = 0
  · have hs' : (X.mk L now was room left off done).stop := hs
    have HA : Hid ((X.mk L now was room left off done).act = ⟨L, now, was, room, left, true, done⟩) := if_pos hs'
    rw [show (X.mk L now was room left off done).delete s = (_, 7) from if_pos hs', HA.out]
    rw [if_pos hs, decide_eq_true hs] at c55
    clear hs hs' HA c49
    go_enter Try.func42, Try.ntmps42
    go_wp2_with (first
      | (go_at_call 55; (with_reducible refine (c55 _).mono ?_); rintro e w1 ⟨rfl, B1⟩; obtain ⟨D1, D2, D3⟩ := kept2 B1; have HD := Lib.hid (And.intro D1 (And.intro D2 D3)); clear B1 D1 D2 D3 c55)
      | (refine wpList_put35 rfl _ _ rfl w.heap.size rfl HD.out.1 rfl ?_; intro w2 E1 G2; have E2 := (G2.block (w.heap.size + 1) (Array.getElem?_eq_some_iff.1 HD.out.2.1).1 (by simp)).trans HD.out.2.1; have HE := Lib.hid (And.intro E1 (And.intro E2 (HD.out.2.2.grown G2 HD.out.2.2.size (fun k h => by cases h; exact Nat.le_refl _)))); obtain ⟨p0, p1, p2, p3, p4, p5, p6, pf⟩ := row7 E1; clear E1 E2 G2 pf)
      | (refine wpList_put35 rfl _ _ rfl (w.heap.size + 1) rfl HE.out.2.1 rfl ?_; intro w3 E3 G3; have HH := Lib.hid (And.intro E3 (HE.out.2.2.grown G3 HE.out.2.2.size (fun k h => by cases h; omega))); clear E3 G3 p0 p1 p2 p3 p4 p5 p6)
      | go_in)
    (try simp only [Exit.inBlock, Exit.then])
    refine bodyPost_ret (res35_tmp rfl _ _ (w.heap.size + 1) 35 _ (0, 0) rfl HH.out.1 rfl) rfl ?_
    exact ⟨_, rfl, ⟨_, _, _, fs, ws, { HR.out.keep (Shf.Below.keep HH.out.2 T) with eq := rfl }⟩, HH.out.2⟩
  · have hs' : ¬ (X.mk L now was room left off done).stop := hs
    have HA : Hid ((X.mk L now was room left off done).act = ⟨L, now, was, room, (if 0 < left then left - 1 else left), off, done + 1⟩) := if_neg hs'
    rw [if_neg hs, decide_eq_false hs] at c55
    cases hg : get now s with
    | none =>
      rw [show (X.mk L now was room left off done).delete s = (_, 2) from (if_neg hs').trans (if_pos hg), HA.out]
      rw [show findI now s = -1 by unfold findI; rw [hg]] at c49
      generalize (if 0 < left then left - 1 else left) = left' at *
      generalize done + 1 = done' at *
      clear hs hs' HA hg
      go_enter Try.func42, Try.ntmps42
      go_wp2_with (first
      | (go_at_call 55; (with_reducible refine (c55 _).mono ?_); rintro e w1 ⟨rfl, B1⟩; obtain ⟨D1, D2, D3⟩ := kept2 B1; have HD := Lib.hid (And.intro D1 (And.intro D2 D3)); clear B1 D1 D2 D3 c55)
      | (refine wpList_put35 rfl _ _ rfl w.heap.size rfl HD.out.1 rfl ?_; intro w2 E1 G2; have E2 := (G2.block (w.heap.size + 1) (Array.getElem?_eq_some_iff.1 HD.out.2.1).1 (by simp)).trans HD.out.2.1; have HE := Lib.hid (And.intro E1 (And.intro E2 (HD.out.2.2.grown G2 HD.out.2.2.size (fun k h => by cases h; exact Nat.le_refl _)))); obtain ⟨p0, p1, p2, p3, p4, p5, p6, pf⟩ := row7 E1; clear E1 E2 G2 pf)
      | (go_at_call 49; (with_reducible refine (c49 w2 (Shf.Below.keep HE.out.2.2 T)).mono ?_); rintro e w5 ⟨rfl, rfl⟩; clear c49)
      | (refine wpList_put35 rfl _ _ rfl (w.heap.size + 1) rfl HE.out.2.1 rfl ?_; intro w3 E3 G3; have HH := Lib.hid (And.intro E3 (HE.out.2.2.grown G3 HE.out.2.2.size (fun k h => by cases h; omega))); clear E3 G3 p0 p1 p2 p3 p4 p5 p6)
      | go_in)
      (try simp only [Exit.inBlock, Exit.then])
      refine bodyPost_ret (res35_tmp rfl _ _ (w.heap.size + 1) 35 _ (0, 0) rfl HH.out.1 rfl) rfl ?_
      exact ⟨_, rfl, ⟨_, _, _, fs, ws, { HR.out.keep (Shf.Below.keep HH.out.2 T) with eq := rfl }⟩, HH.out.2⟩
    | some f =>
      rw [show (X.mk L now was room left off done).delete s = (_, 0) from (if_neg hs').trans (if_neg (by rw [hg]; simp)), HA.out]
      rw [show findI now s = (f : Int) by unfold findI; rw [hg]] at c49
      have c59 := fun W (K : Keep w T W T) => without_any W T (.slice A2 n2 c2) now s (HR.out.nm.keep K) HF.out.now
      rw [← HS.out] at c59
      have hws := HR.out.ol.left (P := isSl) (fun a b r => r.isSl)
      have hwl := HR.out.ol.len
      have hwn := HF.out.was
      have c56 := fun W v1 (K : Keep w T W T) (hv : isSl v1) l' d' => moved_any W T (.slice A1 n1 c1) (.slice A2 n2 c2) (.slice A3 n3 c3) v1 room l' off d' ws.length ws ⟨A1, n1, c1, rfl⟩ ⟨A2, n2, c2, rfl⟩ hv (HR.out.wa.keep K) hws (by rw [hwl]; exact hwn) (fun b hb => by
        rcases Nat.lt_or_ge b w.heap.size with h | h
        · exact Nat.lt_of_lt_of_le h K.size
        · exact absurd (HT.out b h) hb)
      unfold RfV at c56
      generalize (if 0 < left then left - 1 else left) = left' at *
      generalize done + 1 = done' at *
      have hf0 : ¬ (f : Int) < 0 := by omega
      clear hs hs' HA hg hws hwl hwn
      go_enter Try.func42, Try.ntmps42
      go_wp2_with (first
      | (go_at_call 55; (with_reducible refine (c55 _).mono ?_); rintro e w1 ⟨rfl, B1⟩; obtain ⟨D1, D2, D3⟩ := kept2 B1; have HD := Lib.hid (And.intro D1 (And.intro D2 D3)); clear B1 D1 D2 D3 c55)
      | (refine wpList_put35 rfl _ _ rfl w.heap.size rfl HD.out.1 rfl ?_; intro w2 E1 G2; have E2 := (G2.block (w.heap.size + 1) (Array.getElem?_eq_some_iff.1 HD.out.2.1).1 (by simp)).trans HD.out.2.1; have HE := Lib.hid (And.intro E1 (And.intro E2 (HD.out.2.2.grown G2 HD.out.2.2.size (fun k h => by cases h; exact Nat.le_refl _)))); obtain ⟨p0, p1, p2, p3, p4, p5, p6, pf⟩ := row7 E1; clear E1 E2 G2 pf)
      | (go_at_call 49; (with_reducible refine (c49 w2 (Shf.Below.keep HE.out.2.2 T)).mono ?_); rintro e w5 ⟨rfl, rfl⟩; clear c49)
      | go_in)
      go_region_with (first
        | (go_at_call 59; (with_reducible refine (c59 _ (Shf.Below.keep HE.out.2.2.drew T)).mono ?_); rintro e w6 ⟨v1, rfl, O1, B1⟩; have HO := Lib.hid (And.intro O1 B1); have K6 : Hid (Below w.heap.size w w6) := HE.out.2.2.drew.trans (B1.mono HE.out.2.2.size); obtain ⟨A5, c5, rfl, -⟩ := own_sl (T := fun _ => .none) O1 (fun _ _ => rfl); obtain ⟨r0, r1, r2, r3, r4, r5, r6, -⟩ := row7 ((B1.block _ (Array.getElem?_eq_some_iff.1 HE.out.1).1).trans HE.out.1); clear O1 B1)
        | (go_at_call 56; (refine (c56 w6 (.slice A5 (wo now s).length c5) (Shf.Below.keep K6.out T) ⟨A5, _, c5, rfl⟩ left' done').mono ?_); rintro e w7 ⟨wv', rfl, R7, B7⟩; have N7 := (B7.block _ (Nat.lt_of_lt_of_le (Array.getElem?_eq_some_iff.1 HE.out.2.1).1 HO.out.2.size)).trans ((HO.out.2.block _ (Array.getElem?_eq_some_iff.1 HE.out.2.1).1).trans HE.out.2.1); have HM := Lib.hid (And.intro R7 (And.intro B7 N7)); obtain ⟨t0, t1, t2, t3, t4, t5, t6, tf⟩ := row7 N7; obtain ⟨A6, c6, rfl, -⟩ := own_sl (T := fun _ => .none) R7 (fun _ _ => rfl); clear R7 B7 N7 p0 p1 p2 p3 p4 p5 p6 r0 r1 r2 r3 r4 r5 r6))
      all_goals
        go_wp2
        (try simp only [Exit.inBlock, Exit.then])
        refine bodyPost_ret (res35_tmp rfl _ _ (w.heap.size + 1) 35 _ (0, 0) rfl (put7 HM.out.2.2 ..) rfl) rfl ?_
        have B7 : Below w.heap.size w w7 := K6.out.trans (HM.out.2.1.mono K6.out.size)
        have hTB : ∀ b, w2.heap.size ≤ b → T b = .none := fun b hb => HT.out b (Nat.le_trans HE.out.2.2.size hb)
        have hs6 : w2.heap.size ≤ w6.heap.size := HO.out.2.size
        have hb2 : w.heap.size + 1 < w2.heap.size := (Array.getElem?_eq_some_iff.1 HE.out.2.1).1
        have B8 := set7_below (b := w.heap.size + 1) B7 (by omega) (.slice A1 n1 c1) (.slice A5 (wo now s).length c5) (.slice A6 (ws.length + 1) c6) (.int .i64 room) (.int .i64 left') (.bool off) (.int .i64 done')
        exact ⟨_, rfl, ⟨_, _, _, fs, _, HR.out.move HT.out HO.out.1 HE.out.2.2.size HM.out.1 HO.out.2.size HM.out.2.1 B8 (fun b hb => set7_block _ (by have : w2.heap.size ≤ b := hb; omega) ..) room left' off done'⟩, B8⟩
end Go.Proofs.Ytkalgonkaoiapaa.Shf
