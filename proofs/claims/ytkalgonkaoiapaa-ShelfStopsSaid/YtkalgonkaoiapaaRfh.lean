/- The document's own shelf: Sync. -/
import Derived.Test.YtkalgonkaoiapaaRfx
namespace Go.Proofs.Ytkalgonkaoiapaa.Shf
open Go.ChangeShapes Go.WideShapes Go.ChangeAt Go.RowKit

def X.sync (x : X) (s : S) : X × Int := if x.stop then (x.act, 7) else match get x.now s with | none => (x.act, 2) | some f => ({ x.act with L := x.L.set f ((x.L.getD f ([], 0)).1, ((x.L.getD f ([], 0)).1.length : Int)) }, 0)
set_option maxRecDepth 4000 in
set_option maxHeartbeats 2000000 in
theorem xsync_any (w : World) (T : Nat → Tag) (v : Value) (x : X) (s : S) (h : RXE w T v x) (F : x.Fits) (hT : ∀ b, T b ≠ .none → b < w.heap.size) (G : x.Good) :
    Calls Try.prog 39 #[v, .string (str s)] w fun e w' =>
      ∃ v', e = .returned (.tuple #[v', .int .i64 (x.sync s).2]) ∧ RXE w' T v' (x.sync s).1 ∧ Below w.heap.size w w' := by
  obtain ⟨lv, nv, wv, fs, ws, R⟩ := h
  have c55 := fun W => xact_any W lv nv wv x.room x.left x.off x.done R.fl.sl R.nm.isSl R.wa.sl F.done F.left
  have c49 := fun W (K : Keep w T W T) => find_any W T nv x.now s (R.nm.keep K) F.now
  have hgf : ∀ f, get x.now s = some f → f < x.L.length := fun f h => G.now _ (got_mem h)
  clear G
  have HR := Lib.hid R
  have HT := Lib.hid (fun b (hb : w.heap.size ≤ b) => show T b = .none by
    cases e : T b with
    | none => rfl
    | _ => exact absurd (hT b (by rw [e]; intro h; cases h)) (by omega))
  have HF := Lib.hid F
  obtain ⟨A1, n1, c1, e1⟩ := R.fl.sl
  obtain ⟨A2, n2, c2, e2⟩ := R.nm.isSl
  obtain ⟨A3, n3, c3, e3⟩ := R.wa.sl
  rw [R.eq]
  clear R hT F
  subst e1 e2 e3
  obtain ⟨L, now, was, room, left, off, done⟩ := x
  simp only at c55 c49 hgf ⊢
  unfold RfV at c55 ⊢
  obtain ⟨nmv, hnmv⟩ : ∃ n, n = str s := ⟨_, rfl⟩
  rw [← hnmv] at c49 ⊢
  have HS := Lib.hid hnmv
  clear hnmv
  by_cases hs : off = true ∨ left = 0
  · have hs' : (X.mk L now was room left off done).stop := hs
    have HA : Hid ((X.mk L now was room left off done).act = ⟨L, now, was, room, left, true, done⟩) := if_pos hs'
    rw [show (X.mk L now was room left off done).sync s = (_, 7) from if_pos hs', HA.out]
    rw [if_pos hs, decide_eq_true hs] at c55
    clear hs hs' HA c49 hgf
    go_enter Try.func39, Try.ntmps39
    go_wp2_with (first
      | (go_at_call 55; (with_reducible refine (c55 _).mono ?_); rintro e w1 ⟨rfl, B1⟩; obtain ⟨D1, D2, D3⟩ := kept2 B1; have HD := Lib.hid (And.intro D1 (And.intro D2 D3)); clear B1 D1 D2 D3 c55)
      | (refine wpList_put35 rfl _ _ rfl w.heap.size rfl HD.out.1 rfl ?_; intro w2 E1 G2; have E2 := (G2.block (w.heap.size + 1) (Array.getElem?_eq_some_iff.1 HD.out.2.1).1 (by simp)).trans HD.out.2.1; have HE := Lib.hid (And.intro E1 (And.intro E2 (HD.out.2.2.grown G2 HD.out.2.2.size (fun k h => by cases h; exact Nat.le_refl _)))); obtain ⟨p0, p1, p2, p3, p4, p5, p6, pf⟩ := row7 E1; clear E1 E2 G2 pf)
      | (refine wpList_put35 rfl _ _ rfl (w.heap.size + 1) rfl HE.out.2.1 rfl ?_; intro w3 E3 G3; have HH := Lib.hid (And.intro E3 (HE.out.2.2.grown G3 HE.out.2.2.size (fun k h => by cases h; omega))); clear E3 G3 p0 p1 p2 p3 p4 p5 p6)
      | go_in)
    (try simp only [Exit.inBlock, Exit.then])
    refine bodyPost_ret (res35_tmp rfl _ _ (w.heap.size + 1) 35 _ (0, 0) rfl HH.out.1 rfl) rfl ?_
    exact ⟨_, rfl, ⟨_, _, _, fs, ws, { HR.out.keep (Shf.Below.keep HH.out.2 T) with eq := rfl }⟩, HH.out.2⟩
  · have hs' : ¬ (X.mk L now was room left off done).stop := hs
    have HA : Hid ((X.mk L now was room left off done).act = ⟨L, now, was, room, (if 0 < left then left - 1 else left), off, done + 1⟩) := if_neg hs'
    rw [if_neg hs, decide_eq_false hs] at c55
    cases hg : get now s with
    | none =>
      rw [show (X.mk L now was room left off done).sync s = (_, 2) from (if_neg hs').trans (by rw [hg]), HA.out]
      rw [show findI now s = -1 by unfold findI; rw [hg]] at c49
      generalize (if 0 < left then left - 1 else left) = left' at *
      generalize done + 1 = done' at *
      clear hs hs' HA hg
      go_enter Try.func39, Try.ntmps39
      go_wp2_with (first
        | (go_at_call 55; (with_reducible refine (c55 _).mono ?_); rintro e w1 ⟨rfl, B1⟩; obtain ⟨D1, D2, D3⟩ := kept2 B1; have HD := Lib.hid (And.intro D1 (And.intro D2 D3)); clear B1 D1 D2 D3 c55)
        | (refine wpList_put35 rfl _ _ rfl w.heap.size rfl HD.out.1 rfl ?_; intro w2 E1 G2; have E2 := (G2.block (w.heap.size + 1) (Array.getElem?_eq_some_iff.1 HD.out.2.1).1 (by simp)).trans HD.out.2.1; have HE := Lib.hid (And.intro E1 (And.intro E2 (HD.out.2.2.grown G2 HD.out.2.2.size (fun k h => by cases h; exact Nat.le_refl _)))); obtain ⟨p0, p1, p2, p3, p4, p5, p6, pf⟩ := row7 E1; clear E1 E2 G2 pf)
        | (go_at_call 49; (with_reducible refine (c49 w2 (Shf.Below.keep HE.out.2.2 T)).mono ?_); rintro e w5 ⟨rfl, rfl⟩; clear c49)
        | (refine wpList_put35 rfl _ _ rfl (w.heap.size + 1) rfl HE.out.2.1 rfl ?_; intro w3 E3 G3; have HH := Lib.hid (And.intro E3 (HE.out.2.2.grown G3 HE.out.2.2.size (fun k h => by cases h; omega))); clear E3 G3 p0 p1 p2 p3 p4 p5 p6)
        | go_in)
      (try simp only [Exit.inBlock, Exit.then])
      refine bodyPost_ret (res35_tmp rfl _ _ (w.heap.size + 1) 35 _ (0, 0) rfl HH.out.1 rfl) rfl ?_
      exact ⟨_, rfl, ⟨_, _, _, fs, ws, { HR.out.keep (Shf.Below.keep HH.out.2 T) with eq := rfl }⟩, HH.out.2⟩
    | some f =>
      have hLf : f < L.length := hgf f hg
      have hfl : f < fs.length := by rw [HR.out.by_.len]; exact hLf
      have hgD : L.getD f ([], 0) = L[f] := by rw [List.getD_eq_getElem?_getD, List.getElem?_eq_getElem hLf]; rfl
      rw [show (X.mk L now was room left off done).sync s = (_, 0) from (if_neg hs').trans (by rw [hg]), HA.out]
      rw [show findI now s = (f : Int) by unfold findI; rw [hg]] at c49
      simp only [hgD]
      have hfs9 : fs.length ≤ 1000000 := by rw [HR.out.by_.len]; exact HF.out.fl
      have hisl : ∀ p ∈ fs, isSl p.1 := HR.out.by_.left fun a b h => h.1.sl
      have c58 := fun W (K : Keep w T W T) l' d' z => changed_any W T (.slice A1 n1 c1) (.slice A2 n2 c2) (.slice A3 n3 c3) (fs[f].1) room l' off d' f z fs (hisl _ (List.getElem_mem hfl)) ⟨A2, n2, c2, rfl⟩ ⟨A3, n3, c3, rfl⟩ (HR.out.fl.keep K) hisl hfl hfs9 (fun b hb => by
        rcases Nat.lt_or_ge b w.heap.size with h | h
        · exact Nat.lt_of_lt_of_le h K.size
        · exact absurd (HT.out b h) hb)
      unfold RfV at c58
      obtain ⟨g1, hA1, hn1, hc1, hgl, FC⟩ := RSl.fil HR.out.fl f hfl
      subst hA1
      have hby := HR.out.by_.at f hfl hLf
      have hz := hby.2
      have RB := hby.1
      obtain ⟨Ap, cp, hp, hpc, hpn⟩ := hby.1.form
      rw [hp, hz] at FC
      rw [hp] at RB
      have hfn : (f : Int) < (n1 : Int) := by omega
      have HN1 := Lib.hid hn1
      clear hn1
      obtain ⟨lp, hlp⟩ : ∃ lp, lp = (L[f].1).length := ⟨_, rfl⟩
      rw [← hlp] at FC hpc
      obtain ⟨zp, hzp⟩ : ∃ zp : Int, zp = L[f].2 := ⟨_, rfl⟩
      rw [← hzp] at FC
      have HLP := Lib.hid (And.intro hlp hzp)
      have HB := Lib.hid RB
      have FC : Hid (∀ W, Below w.heap.size w W → W.cell? ⟨g1, f * 2, none⟩ = some (.slice Ap lp cp) ∧ W.cell? ⟨g1, f * 2 + 1, none⟩ = some (.int .i64 zp)) := FC
      rw [hp] at c58
      generalize (if 0 < left then left - 1 else left) = left' at *
      generalize done + 1 = done' at *
      have hf0 : ¬ (f : Int) < 0 := by omega
      have hf00 : (0 : Int) ≤ f := by omega
      rw [← hlp] at c58 ⊢
      clear hs hs' HA hg hgf hby hz hp RB hlp hzp hisl hgD
      go_enter Try.func39, Try.ntmps39
      go_wp2_with (first
        | (go_at_call 55; (with_reducible refine (c55 _).mono ?_); rintro e w1 ⟨rfl, B1⟩; obtain ⟨D1, D2, D3⟩ := kept2 B1; have HD := Lib.hid (And.intro D1 (And.intro D2 D3)); clear B1 D1 D2 D3 c55)
        | (refine wpList_put35 rfl _ _ rfl w.heap.size rfl HD.out.1 rfl ?_; intro w2 E1 G2; have E2 := (G2.block (w.heap.size + 1) (Array.getElem?_eq_some_iff.1 HD.out.2.1).1 (by simp)).trans HD.out.2.1; have HE := Lib.hid (And.intro E1 (And.intro E2 (HD.out.2.2.grown G2 HD.out.2.2.size (fun k h => by cases h; exact Nat.le_refl _)))); obtain ⟨p0, p1, p2, p3, p4, p5, p6, pf⟩ := row7 E1; clear E1 E2 G2 pf)
        | (go_at_call 49; (with_reducible refine (c49 w2 (Shf.Below.keep HE.out.2.2 T)).mono ?_); rintro e w5 ⟨rfl, rfl⟩; obtain ⟨d0, d1⟩ := FC.out w2 HE.out.2.2; have l1 := (Array.getElem?_eq_some_iff.1 HE.out.1).1; have l2 := (Array.getElem?_eq_some_iff.1 HE.out.2.1).1; have l3 : ¬ w.heap.size = w2.heap.size := (by omega); have l4 : ¬ w2.heap.size = w.heap.size := (by omega); have l5 : ¬ w.heap.size + 1 = w2.heap.size := (by omega); have l6 : ¬ w2.heap.size = w.heap.size + 1 := (by omega); clear c49)
        | (go_at_call 58; (with_reducible refine (c58 _ (Shf.Below.keep (HE.out.2.2.alloc HE.out.2.2.size _) T) left' done' (lp : Int)).mono ?_); rintro e w7 ⟨lv', rfl, O7, B7⟩; obtain ⟨A6, c6, rfl, -⟩ := own_sl (T := fun _ => .none) O7 (fun _ _ => rfl); have N7 := (B7.block (w.heap.size + 1) (by simp; omega)).trans ((heap_alloc_old w2 (.cells #[.slice Ap lp cp, .int .i64 (lp : Int)] 83) l2).trans HE.out.2.1); have HO := Lib.hid (And.intro O7 B7); clear O7 B7)
        | (refine wpList_put35 (x0 := .slice none 0 0) (x1 := .slice none 0 0) (x2 := .slice none 0 0) (x3 := .int .i64 0) (x4 := .int .i64 0) (x5 := .bool false) (x6 := .int .i64 0) rfl _ _ rfl (w.heap.size + 1) rfl N7 rfl ?_; intro w3 E3 G3; have HH := Lib.hid (And.intro E3 G3); clear E3 G3)
        | go_in)
      (try simp only [Exit.inBlock, Exit.then])
      refine bodyPost_ret (res35_tmp rfl _ _ (w.heap.size + 1) 35 _ (0, 0) rfl HH.out.1 rfl) rfl ?_
      have hb : w.heap.size ≤ w2.heap.size := HE.out.2.2.size
      have B7w : Below w.heap.size w w7 := (HE.out.2.2.alloc hb _).trans (HO.out.2.mono (by simp; omega))
      have B8 : Below w.heap.size w w3 := B7w.grown HH.out.2 B7w.size (fun k h => by cases h; omega)
      have hz : (lp : Int) = (L[f].1.length : Int) := by rw [HLP.out.1]
      have hB3 : RBy w3 T (.slice Ap lp cp) L[f].1 := by rw [HLP.out.1]; exact HB.out.keep (Shf.Below.keep B8 T)
      exact ⟨_, rfl, ⟨_, _, _, _, _, HR.out.change HT.out HO.out.1 (by simp; omega) B8 (fun b h1 h2 => HH.out.2.block b h2 (fun h => by injection h with h; simp at h1; omega)) hB3 room left' off done'⟩, B8⟩
end Go.Proofs.Ytkalgonkaoiapaa.Shf
