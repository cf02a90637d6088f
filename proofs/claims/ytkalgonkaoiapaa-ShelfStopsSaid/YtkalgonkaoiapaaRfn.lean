/- The document's own shelf: a fall. -/
import Derived.Test.YtkalgonkaoiapaaRfk
import Derived.Test.YtkalgonkaoiapaaRfi
import Derived.Deep.DeepCutAuto
namespace Go.Proofs.Ytkalgonkaoiapaa.Shf
open Go.ChangeShapes Go.WideShapes Go.ChangeAt Go.RowKit

def cutM (b : Int) (p : S × Int) : Int := if b < (p.1.length : Int) - p.2 then p.2 + b else (p.1.length : Int)
def keepF (b : Int) (p : S × Int) : S × Int := (p.1.take (cutM b p).toNat, cutM b p)
def fallS (b : Int) (L : List (S × Int)) (p : S × Nat) : List (S × Int) := L.set p.2 (keepF b (L.getD p.2 ([], 0)))
def fallL (b : Int) (L : List (S × Int)) (l : List (S × Nat)) : List (S × Int) := l.foldl (fallS b) L
theorem fallL_take (b : Int) (L : List (S × Int)) (l : List (S × Nat)) (k : Nat) (h : k < l.length) : fallL b L (l.take (k + 1)) = fallS b (fallL b L (l.take k)) l[k] := by
  unfold fallL
  rw [List.take_succ_eq_append_getElem h, List.foldl_append]; rfl
theorem fallS_len (b : Int) (L : List (S × Int)) (p : S × Nat) : (fallS b L p).length = L.length := by simp [fallS]
theorem fallL_len (b : Int) (l : List (S × Nat)) : ∀ L : List (S × Int), (fallL b L l).length = L.length := by
  induction l with
  | nil => intro L; rfl
  | cons p l ih => intro L; show (fallL b (fallS b L p) l).length = _; rw [ih, fallS_len]
/-- So much is safe as there is. -/
def Okay (L : List (S × Int)) : Prop := ∀ p ∈ L, 0 ≤ p.2 ∧ p.2 ≤ (p.1.length : Int)
theorem cutM_le (b : Int) (hb : 0 ≤ b) (p : S × Int) (h : 0 ≤ p.2 ∧ p.2 ≤ (p.1.length : Int)) : 0 ≤ cutM b p ∧ cutM b p ≤ (p.1.length : Int) := by
  unfold cutM
  split <;> omega
theorem Okay.fallS {b : Int} (hb : 0 ≤ b) {L : List (S × Int)} (h : Okay L) (p : S × Nat) (hp : p.2 < L.length) : Okay (fallS b L p) := by
  intro q hq
  rcases List.mem_or_eq_of_mem_set hq with hq | rfl
  · exact h q hq
  · have e : L.getD p.2 ([], 0) = L[p.2] := by rw [List.getD_eq_getElem?_getD, List.getElem?_eq_getElem hp]; rfl
    have h1 := h L[p.2] (List.getElem_mem hp)
    have h2 := cutM_le b hb L[p.2] h1
    rw [e]
    unfold keepF
    refine ⟨h2.1, ?_⟩
    rw [List.length_take]
    omega
theorem Okay.fallL {b : Int} (hb : 0 ≤ b) (l : List (S × Nat)) : ∀ {L : List (S × Int)}, Okay L → (∀ p ∈ l, p.2 < L.length) → Okay (fallL b L l) := by
  induction l with
  | nil => intro L h _; exact h
  | cons p l ih =>
    intro L h hl
    exact ih (h.fallS hb p (hl p (by simp))) (fun q hq => by rw [fallS_len]; exact hl q (by simp [hq]))

theorem row_slot {w w' : World} {T : Nat → Tag} {v : Value} {sz n : Nat} {us : List Value} (h : RSl w T v sz n us) (k : 0 < us.length → ∀ g m c, v = .slice (some ⟨g, 0, none⟩) m c → g < w.heap.size → w'.heap[g]? = w.heap[g]? ∧ g < w'.heap.size) : RSl w' T v sz n us := by
  obtain ⟨A, c, e, h1, h2, h3, h4⟩ := h
  refine ⟨A, c, e, h1, h2, h3, fun h0 => ?_⟩
  obtain ⟨g, ea, i1, i2, i3⟩ := h4 h0
  subst ea
  obtain ⟨k1, k2⟩ := k h0 g _ _ e i1
  exact ⟨g, rfl, k2, i2, fun j u hj => (World.cell?_of_block (a := ⟨g, j, none⟩) k1).trans (i3 j u hj)⟩
theorem put4 {w : World} {b : Nat} {t : TypeId} {x0 x1 x2 x3 x4 x5 x6 : Value} (h : w.heap[b]? = some (.cells #[x0, x1, x2, x3, x4, x5, x6] t)) (y1 y2 y5 y4 : Value) :
    ((((w.setCell ⟨b, 1, none⟩ y1).setCell ⟨b, 2, none⟩ y2).setCell ⟨b, 5, none⟩ y5).setCell ⟨b, 4, none⟩ y4).heap[b]? = some (.cells #[x0, y1, y2, x3, y4, y5, x6] t) := by
  have e := heap_setCell_same _ b 4 _ t y4 (heap_setCell_same _ b 5 _ t y5 (heap_setCell_same _ b 2 _ t y2 (heap_setCell_same _ b 1 _ t y1 h)))
  rw [e]
  congr 2
/-- Where the fall's loop stands. -/
structure FallAt (w : World) (T : Nat → Tag) (nv wv : Value) (room left : Int) (off : Bool) (done : Int) (Lk : List (S × Int)) (wr : World) (lv : Value) (fs : List (Value × Int)) : Prop where
  bel : Below w.heap.size w wr
  box : wr.heap[w.heap.size]? = some (.cells #[lv, nv, wv, .int .i64 room, .int .i64 left, .bool off, .int .i64 done] 35)
  res : wr.heap[w.heap.size + 1]? = some (.cells #[.slice none 0 0, .slice none 0 0, .slice none 0 0, .int .i64 0, .int .i64 0, .bool false, .int .i64 0] 35)
  fl : RSl wr T lv 2 fs.length (fs.flatMap filP)
  by_ : All2 (fun p q => RBy w T p.1 q.1 ∧ p.2 = q.2) fs Lk
  ap : 0 < fs.length → ∀ g m c, lv = .slice (some ⟨g, 0, none⟩) m c → g ≠ w.heap.size ∧ g ≠ w.heap.size + 1
def Short (L : List (S × Int)) : Prop := ∀ p ∈ L, p.1.length ≤ 1000000
theorem Short.fallS {b : Int} {L : List (S × Int)} (h : Short L) (p : S × Nat) (hp : p.2 < L.length) : Short (fallS b L p) := by
  intro q hq
  rcases List.mem_or_eq_of_mem_set hq with hq | rfl
  · exact h q hq
  · have e : L.getD p.2 ([], 0) = L[p.2] := by rw [List.getD_eq_getElem?_getD, List.getElem?_eq_getElem hp]; rfl
    have h1 := h L[p.2] (List.getElem_mem hp)
    rw [e]
    unfold keepF
    show ((L[p.2]).1.take _).length ≤ _
    rw [List.length_take]
    exact Nat.le_trans (Nat.min_le_right _ _) h1
theorem Short.fallL {b : Int} (l : List (S × Nat)) : ∀ {L : List (S × Int)}, Short L → (∀ p ∈ l, p.2 < L.length) → Short (fallL b L l) := by
  induction l with
  | nil => intro L h _; exact h
  | cons p l ih =>
    intro L h hl
    exact ih (h.fallS p (hl p (by simp))) (fun q hq => by rw [fallS_len]; exact hl q (by simp [hq]))
def X.fall (x : X) (names b : Int) : X :=
  let n := if ((x.was.length : Int) - 1) < (if names < 0 then 0 else names) then (x.was.length : Int) - 1 else (if names < 0 then 0 else names)
  let now := x.was.getD n.toNat []
  ⟨fallL (if b < 0 then 0 else b) x.L now, now, [now], x.room, -1, false, x.done⟩

set_option maxRecDepth 4000 in
set_option maxHeartbeats 2000000 in
theorem xfall_any (w : World) (T : Nat → Tag) (v : Value) (x : X) (names b : Int) (h : RXE w T v x) (F : x.Fits) (hT : ∀ b, T b ≠ .none → b < w.heap.size) (G : x.Good) (hO : Okay x.L) (hL : Short x.L) (hW : ∀ l ∈ x.was, l.length ≤ 1000000)
    (hn : (Lit.int .i64 names).wf = true) (hb : (Lit.int .i64 b).wf = true) :
    Calls Try.prog 44 #[v, .int .i64 names, .int .i64 b] w fun e w' =>
      ∃ v', e = .returned v' ∧ RXE w' T v' (x.fall names b) ∧ Below w.heap.size w w' := by
  obtain ⟨lv, nv, wv, fs, ws, R⟩ := h
  have HR := Lib.hid R
  have HT := Lib.hid (fun b (hb : w.heap.size ≤ b) => show T b = .none by
    cases e : T b with
    | none => rfl
    | _ => exact absurd (hT b (by rw [e]; intro h; cases h)) (by omega))
  have HF := Lib.hid F
  have kn := bounds_i64 hn
  have kb := bounds_i64 hb
  have hwl := R.ol.len
  have hw0 : 0 < x.was.length := by
    have := G.some
    cases e : x.was with
    | nil => exact absurd e this
    | cons _ _ => simp
  have hb2 := F.was
  rw [R.eq]
  obtain ⟨A1, n1, c1, e1⟩ := R.fl.sl
  obtain ⟨A2, n2, c2, e2⟩ := R.nm.isSl
  obtain ⟨A3, c3, e3, -⟩ := R.wa
  clear R hT F hn hb
  subst e1 e2 e3
  obtain ⟨L, now, was, room, left, off, done⟩ := x
  simp only at hwl hw0 hb2 hL hW hO
  unfold RfV
  obtain ⟨nW, hnW⟩ : ∃ n, n = was.length := ⟨_, rfl⟩
  obtain ⟨N0, hN0⟩ : ∃ z : Int, z = (if names < 0 then 0 else names) := ⟨_, rfl⟩
  obtain ⟨N1, hN1⟩ : ∃ z : Int, z = (if ((nW : Int) - 1) < N0 then (nW : Int) - 1 else N0) := ⟨_, rfl⟩
  obtain ⟨B0, hB0⟩ : ∃ z : Int, z = (if b < 0 then 0 else b) := ⟨_, rfl⟩
  have hfall : (X.mk L now was room left off done).fall names b = ⟨fallL B0 L (was.getD N1.toNat []), was.getD N1.toNat [], [was.getD N1.toNat []], room, -1, false, done⟩ := by
    unfold X.fall
    simp only [← hnW, ← hN0, ← hN1, ← hB0]
  rw [hfall]
  rw [← hnW] at hwl hw0 hb2
  rw [hwl]
  have h00 : 0 ≤ N0 := by rw [hN0]; split <;> omega
  have h10 : 0 ≤ N1 ∧ N1 < nW := by rw [hN1]; split <;> omega
  have hb0 : 0 ≤ B0 := by rw [hB0]; split <;> omega
  have hB9 : B0 ≤ 9223372036854775807 := by rw [hB0]; split <;> omega
  obtain ⟨m, rfl⟩ := Int.eq_ofNat_of_zero_le h10.1
  have hmW : m < nW := by omega
  rw [show ((m : Int)).toNat = m from rfl]
  have HWL := Lib.hid hwl
  have HNW := Lib.hid hnW
  have HN0 := Lib.hid hN0
  have HN1 := Lib.hid hN1
  have HB0 := Lib.hid hB0
  have HL := Lib.hid hL
  have HO := Lib.hid hO
  have hW9 : ∀ k (h : k < was.length), (was[k]).length ≤ 1000000 := fun k h => hW _ (List.getElem_mem h)
  have hmw : m < ws.length := by rw [hwl]; exact hmW
  have hml : m < was.length := by rw [← hnW]; exact hmW
  obtain ⟨gw, e3, hcell0⟩ := RSl.one HR.out.wa m hmw
  subst e3
  have RN := HR.out.ol.at m hmw hml
  obtain ⟨An, cn, hv, hcn, hAn, -⟩ := id RN
  rw [hv] at hcell0 RN
  have hgd : was.getD m [] = was[m] := by rw [List.getD_eq_getElem?_getD, List.getElem?_eq_getElem hml]; rfl
  rw [hgd]
  have hgw : ∀ p ∈ was[m], p.2 < L.length := G.was _ (List.getElem_mem hml)
  have hnm9 := hW9 m hml
  obtain ⟨nn, hnn⟩ : ∃ n, n = (was[m]).length := ⟨_, rfl⟩
  rw [← hnn] at hcell0 hcn hnm9
  generalize was[m] = nl at *
  have HNN := Lib.hid hnn
  have HRN := Lib.hid RN
  have HGN := Lib.hid hgw
  clear hv hgd hnn RN hgw hW9
  have D1 := heap_alloc2_old w (.cells #[.slice A1 n1 c1, .slice A2 n2 c2, .slice (some ⟨gw, 0, none⟩) nW c3, .int .i64 room, .int .i64 left, .bool off, .int .i64 done] 35) (.cells #[.slice none 0 0, .slice none 0 0, .slice none 0 0, .int .i64 0, .int .i64 0, .bool false, .int .i64 0] 35)
  have D2 := heap_alloc2_new w (.cells #[.slice A1 n1 c1, .slice A2 n2 c2, .slice (some ⟨gw, 0, none⟩) nW c3, .int .i64 room, .int .i64 left, .bool off, .int .i64 done] 35) (.cells #[.slice none 0 0, .slice none 0 0, .slice none 0 0, .int .i64 0, .int .i64 0, .bool false, .int .i64 0] 35)
  have D3 := below2 w (.cells #[.slice A1 n1 c1, .slice A2 n2 c2, .slice (some ⟨gw, 0, none⟩) nW c3, .int .i64 room, .int .i64 left, .bool off, .int .i64 done] 35) (.cells #[.slice none 0 0, .slice none 0 0, .slice none 0 0, .int .i64 0, .int .i64 0, .bool false, .int .i64 0] 35)
  clear hfall hwl hnW hN0 hN1 hB0 h10 hL hO hW G
  go_enter Try.func44, Try.ntmps44
  go_upto_if 12 with (fail)
  generalize (w.alloc (.cells #[.slice A1 n1 c1, .slice A2 n2 c2, .slice (some ⟨gw, 0, none⟩) nW c3, .int .i64 room, .int .i64 left, .bool off, .int .i64 done] 35)).alloc (.cells #[.slice none 0 0, .slice none 0 0, .slice none 0 0, .int .i64 0, .int .i64 0, .bool false, .int .i64 0] 35) = w1 at *
  have HD := Lib.hid (And.intro D1 (And.intro D2 D3))
  obtain ⟨p0, p1, p2, p3, p4, p5, p6, -⟩ := row7 D1
  clear D1 D2 D3
  go_cut [1] (fun s1 wx => wx = w1 ∧ s1 = .int .i64 N0)
  case first =>
    by_cases hc : names < 0
    · go_wp2
      go_meet
      case rel => exact ⟨rfl, by rw [HN0.out, if_pos hc]⟩
    · go_wp2
      go_meet
      case rel => exact ⟨rfl, by rw [HN0.out, if_neg (by omega)]⟩
  case rest =>
    obtain ⟨rfl, rfl⟩ := hcut
    have hw1 : IntKind.i64.wrap ((nW : Int) - 1) = (nW : Int) - 1 := by rw [IntKind.wrap_i64]; omega
    go_upto_if 18 with (fail)
    go_cut [1] (fun s1 wx => wx = wc ∧ s1 = .int .i64 (m : Int))
    case first =>
      by_cases hc : ((nW : Int) - 1) < N0
      · go_wp2
        go_meet
        case rel => exact ⟨rfl, by rw [HN1.out, if_pos hc]⟩
      · go_wp2
        go_meet
        case rel => exact ⟨rfl, by rw [HN1.out, if_neg (by omega)]⟩
    case rest =>
      obtain ⟨rfl, rfl⟩ := hcut
      go_upto_if 24 with (fail)
      go_cut [2] (fun s1 wx => wx = wc ∧ s1 = .int .i64 B0)
      case first =>
        by_cases hc : b < 0
        · go_wp2
          go_meet
          case rel => exact ⟨rfl, by rw [HB0.out, if_pos hc]⟩
        · go_wp2
          go_meet
          case rel => exact ⟨rfl, by rw [HB0.out, if_neg (by omega)]⟩
      case rest =>
        obtain ⟨rfl, rfl⟩ := hcut
        have hcell := (HD.out.2.2.cell (block_lt_of_cell hcell0)).trans hcell0
        have hmi : (m : Int) < nW := by omega
        have hap0 : 0 < fs.length → ∀ g m c, Value.slice A1 n1 c1 = .slice (some ⟨g, 0, none⟩) m c → g ≠ w.heap.size ∧ g ≠ w.heap.size + 1 := fun h0 g m c e => by
          obtain ⟨A', c', e1, h1, h2, h3, h4⟩ := HR.out.fl
          obtain ⟨g', e2, h5, _⟩ := h4 (by rw [filL_len]; omega)
          rw [e1, e2] at e
          injection e with e _ _
          injection e with e
          injection e with e
          omega
        have HAP0 := Lib.hid hap0
        clear hap0
        go_wp2
        go_loopw [8] (fun i wr => ∃ k : Nat, k ≤ nn ∧ i = .int .i64 k ∧ ∃ lvk fsk, FallAt w T (.slice A2 n2 c2) (.slice (some ⟨gw, 0, none⟩) nW c3) room left off done (fallL B0 L (nl.take k)) wr lvk fsk) (fun i _ => nn - (intOf i).toNat)
        case atStart => exact ⟨0, Nat.zero_le _, rfl, .slice A1 n1 c1, fs, ⟨HD.out.2.2, HD.out.1, HD.out.2.1, HR.out.fl.keep (Shf.Below.keep HD.out.2.2 T), HR.out.by_, HAP0.out⟩⟩
        case round =>
          obtain ⟨k, hk, rfl, lvk, fsk, FA⟩ := hrel
          by_cases hlt : k < nn
          · have hlt' : (k : Int) < nn := by omega
            have hkl : k < nl.length := by rw [← HNN.out]; exact hlt
            have hfL := HGN.out _ (List.getElem_mem hkl)
            have hst := fallL_take B0 L nl k hkl
            have hLkl := fallL_len B0 (nl.take k) L
            have hok := Okay.fallL hb0 (nl.take k) HO.out (fun p hp => HGN.out p (List.mem_of_mem_take hp))
            have hsh := Short.fallL (b := B0) (nl.take k) HL.out (fun p hp => HGN.out p (List.mem_of_mem_take hp))
            generalize hLk : fallL B0 L (nl.take k) = Lk at *
            have hfk : nl[k].2 < Lk.length := by rw [hLkl]; exact hfL
            have hff : nl[k].2 < fsk.length := by rw [FA.by_.len]; exact hfk
            have hNC0 : ∀ W, Below w.heap.size w W → ∃ gn, An = some ⟨gn, 0, none⟩ ∧ W.cell? ⟨gn, k * 2 + 1, none⟩ = some (.int .i64 (nl[k].2 : Int)) := fun W hW => by
              obtain ⟨A', c', e, _, _, hC⟩ := HRN.out.keep (Shf.Below.keep hW T)
              injection e with e1 _ _
              subst e1
              obtain ⟨gn, e, _, d⟩ := RNm.at hC k hkl
              exact ⟨gn, e, d⟩
            obtain ⟨gn, hAn, _⟩ := hNC0 w (Below.refl _ _)
            subst hAn
            have hNC : ∀ W, Below w.heap.size w W → W.cell? ⟨gn, k * 2 + 1, none⟩ = some (.int .i64 (nl[k].2 : Int)) := fun W hW => by
              obtain ⟨g', e, d⟩ := hNC0 W hW
              injection e with e
              injection e with e
              subst e
              exact d
            clear hNC0
            obtain ⟨Ak, ck, hlv, hck, -⟩ := FA.fl
            subst hlv
            obtain ⟨gk, hAk, _, _, hgk, FC⟩ := RSl.fil FA.fl nl[k].2 hff
            subst hAk
            have hby := FA.by_.at nl[k].2 hff hfk
            obtain ⟨Ap, cp, hp, hpc, _⟩ := hby.1.form
            have RB := hby.1
            have hz := hby.2
            rw [hp] at RB
            have hokf := hok Lk[nl[k].2] (List.getElem_mem hfk)
            have hshf := hsh Lk[nl[k].2] (List.getElem_mem hfk)
            have hgD : Lk.getD nl[k].2 ([], 0) = Lk[nl[k].2] := by rw [List.getD_eq_getElem?_getD, List.getElem?_eq_getElem hfk]; rfl
            have hcm := cutM_le B0 hb0 Lk[nl[k].2] hokf
            have hcd : cutM B0 Lk[nl[k].2] = if B0 < (Lk[nl[k].2].1.length : Int) - Lk[nl[k].2].2 then Lk[nl[k].2].2 + B0 else (Lk[nl[k].2].1.length : Int) := rfl
            have hS : fallL B0 L (nl.take (k + 1)) = Lk.set nl[k].2 (Lk[nl[k].2].1.take (cutM B0 Lk[nl[k].2]).toNat, cutM B0 Lk[nl[k].2]) := by rw [hst]; unfold fallS keepF; rw [hgD]
            rw [hp, hz] at FC
            obtain ⟨M, hM⟩ := Int.eq_ofNat_of_zero_le hcm.1
            rw [hM] at hcm hcd hS
            rw [show ((M : Int)).toNat = M from rfl] at hS
            obtain ⟨f, hf⟩ : ∃ f, f = nl[k].2 := ⟨_, rfl⟩
            rw [← hf] at hNC
            simp only [← hf] at FC RB hokf hshf hcm hcd hS hff hpc
            obtain ⟨q, hq⟩ : ∃ q, q = (Lk[f]'(by rw [hf]; exact hfk)).1 := ⟨_, rfl⟩
            obtain ⟨zp, hzp⟩ : ∃ z, z = (Lk[f]'(by rw [hf]; exact hfk)).2 := ⟨_, rfl⟩
            rw [← hq, ← hzp] at hokf hcd
            rw [← hq] at hshf hcm hS RB FC hpc
            rw [← hzp] at FC
            obtain ⟨lp, hlp⟩ : ∃ l, l = q.length := ⟨_, rfl⟩
            rw [← hlp] at hokf hcd hshf hcm FC RB hpc
            have hisl : ∀ p ∈ fsk, isSl p.1 := FA.by_.left fun a b h => h.1.sl
            have hfs9 : fsk.length ≤ 1000000 := by rw [FA.by_.len, hLkl]; exact HF.out.fl
            have c58 := fun W (B : Below wr.heap.size wr W) => changed_any W T (.slice (some ⟨gk, 0, none⟩) fsk.length ck) (.slice A2 n2 c2) (.slice (some ⟨gw, 0, none⟩) nW c3) (.slice Ap M M) room left off done f (M : Int) fsk (isSl_mk Ap M M) (isSl_mk A2 n2 c2) (isSl_mk _ _ _) (FA.fl.keep (Shf.Below.keep B T)) hisl hff hfs9 (fun b hb => by
              rcases Nat.lt_or_ge b w.heap.size with h | h
              · exact Nat.lt_of_lt_of_le h (Nat.le_trans FA.bel.size B.size)
              · exact absurd (HT.out b h) hb)
            unfold RfV at c58
            have hMl : M ≤ lp := by omega
            have hcut := cut3_any (A := Ap) lp cp M (by omega) hMl
            have hfi : (f : Int) < fsk.length := by omega
            obtain ⟨nk, hnk⟩ : ∃ n, n = fsk.length := ⟨_, rfl⟩
            rw [← hnk] at c58 hfi hck hfs9
            have HNK := Lib.hid hnk
            have box := FA.box
            rw [← hnk] at box
            have BOX := Lib.hid box
            have HC58 := Lib.hid c58
            have HNC := Lib.hid hNC
            have HFC := Lib.hid FC
            have HRB := Lib.hid (RB.cut M (by omega))
            have HCD := Lib.hid hcd
            have HSS := Lib.hid hS
            have HFA := Lib.hid FA
            have HFF := Lib.hid hff
            have HLP := Lib.hid hlp
            have hl2 : w.heap.size < wr.heap.size := (Array.getElem?_eq_some_iff.1 box).1
            have hl3 : ¬ w.heap.size = wr.heap.size := by omega
            have hl4 : ¬ wr.heap.size = w.heap.size := by omega
            clear hisl c58 hNC FC RB hcd hS FA hlp hst hLkl hok hsh hLk hby hp hz hgD hM hq hzp hf hcm hfk hfL hnk box hff
            obtain ⟨p0', p1', p2', p3', p4', p5', p6', -⟩ := row7 BOX.out
            go_wp2
            refine wp_region_noPanic ?_
            refine wp_region_held_drew (S := fun x : World => Below wr.heap.size wr x) (by kernel_rfl) (Below.refl _ wr).drew (fun hHeld => ?_)
            refine wpAnyH_take (i := 0) (oi := { dst := some 36, op := Op.fieldAddr 35 (Operand.tmp 3) 0, type := 0, pos := "ref.go:239", after := #[], guard := none }) (v := .pointer (some ⟨w.heap.size, 0, none⟩)) rfl (by kernel_rfl) (by kernel_rfl) (by kernel_rfl) (fun _ _ _ h => h) (Or.inl ⟨by rfl, fun w hSw => by go_simp⟩) (by assumption) ?_
            try simp only [Act.put, List.setIfInBounds_toArray, List.set_cons_zero, List.set_cons_succ]
            refine wpAnyH_take (i := 1) (oi := { dst := some 37, op := Op.load 31 (Operand.tmp 36), type := 31, pos := "ref.go:239", after := #[{ on := 0, ground := Ground.data }], guard := none }) (v := .slice (some ⟨gk, 0, none⟩) nk ck) rfl (by kernel_rfl) (by kernel_rfl) (by kernel_rfl) (fun _ _ _ h => h) (Or.inl ⟨by rfl, fun w hSw => by obtain ⟨y0, y1, y2, y3, y4, y5, y6, -⟩ := row7 ((hSw.block _ hl2).trans BOX.out); go_simp⟩) (by assumption) ?_
            try simp only [Act.put, List.setIfInBounds_toArray, List.set_cons_zero, List.set_cons_succ]
            refine wpAnyH_take (i := 2) (oi := { dst := some 38, op := Op.move (Operand.tmp 7), type := 32, pos := "ref.go:239", after := #[], guard := none }) (v := .slice (some ⟨gn, 0, none⟩) nn cn) rfl (by kernel_rfl) (by kernel_rfl) (by kernel_rfl) (fun _ _ _ h => h) (Or.inl ⟨by rfl, fun w hSw => by go_simp⟩) (by assumption) ?_
            try simp only [Act.put, List.setIfInBounds_toArray, List.set_cons_zero, List.set_cons_succ]
            refine wpAnyH_take (i := 3) (oi := { dst := some 39, op := Op.move (Operand.tmp 8), type := 3, pos := "ref.go:239", after := #[], guard := none }) (v := .int .i64 (k : Int)) rfl (by kernel_rfl) (by kernel_rfl) (by kernel_rfl) (fun _ _ _ h => h) (Or.inl ⟨by rfl, fun w hSw => by go_simp⟩) (by assumption) ?_
            try simp only [Act.put, List.setIfInBounds_toArray, List.set_cons_zero, List.set_cons_succ]
            refine wpAnyH_take (i := 4) (oi := { dst := some 40, op := Op.indexAddr 32 (Operand.tmp 38) (Operand.tmp 39), type := 0, pos := "ref.go:239", after := #[{ on := 2, ground := Ground.data }, { on := 3, ground := Ground.data }], guard := none }) (v := .pointer (some ⟨gn, k * 2, none⟩)) rfl (by kernel_rfl) (by kernel_rfl) (by kernel_rfl) (fun _ _ _ h => h) (Or.inl ⟨by rfl, fun w hSw => by go_simp⟩) (by assumption) ?_
            try simp only [Act.put, List.setIfInBounds_toArray, List.set_cons_zero, List.set_cons_succ]
            refine wpAnyH_take (i := 5) (oi := { dst := some 41, op := Op.fieldAddr 96 (Operand.tmp 40) 1, type := 0, pos := "ref.go:239", after := #[{ on := 4, ground := Ground.data }], guard := none }) (v := .pointer (some ⟨gn, k * 2 + 1, none⟩)) rfl (by kernel_rfl) (by kernel_rfl) (by kernel_rfl) (fun _ _ _ h => h) (Or.inl ⟨by rfl, fun w hSw => by go_simp⟩) (by assumption) ?_
            try simp only [Act.put, List.setIfInBounds_toArray, List.set_cons_zero, List.set_cons_succ]
            refine wpAnyH_take (i := 6) (oi := { dst := some 42, op := Op.load 3 (Operand.tmp 41), type := 3, pos := "ref.go:239", after := #[{ on := 5, ground := Ground.data }], guard := none }) (v := .int .i64 (f : Int)) rfl (by kernel_rfl) (by kernel_rfl) (by kernel_rfl) (fun _ _ _ h => h) (Or.inl ⟨by rfl, fun w hSw => by have q1 := HNC.out w (HFA.out.bel.trans (hSw.mono HFA.out.bel.size)); go_simp⟩) (by assumption) ?_
            try simp only [Act.put, List.setIfInBounds_toArray, List.set_cons_zero, List.set_cons_succ]
            refine wpAnyH_take (i := 7) (oi := { dst := some 43, op := Op.indexAddr 31 (Operand.tmp 37) (Operand.tmp 42), type := 0, pos := "ref.go:239", after := #[{ on := 1, ground := Ground.data }, { on := 6, ground := Ground.data }], guard := none }) (v := .pointer (some ⟨gk, f * 2, none⟩)) rfl (by kernel_rfl) (by kernel_rfl) (by kernel_rfl) (fun _ _ _ h => h) (Or.inl ⟨by rfl, fun w hSw => by go_simp⟩) (by assumption) ?_
            try simp only [Act.put, List.setIfInBounds_toArray, List.set_cons_zero, List.set_cons_succ]
            refine wpAnyH_take (i := 8) (oi := { dst := some 44, op := Op.load 83 (Operand.tmp 43), type := 83, pos := "ref.go:239", after := #[{ on := 7, ground := Ground.data }], guard := none }) (v := .agg #[.slice Ap lp cp, .int .i64 zp]) rfl (by kernel_rfl) (by kernel_rfl) (by kernel_rfl) (fun _ _ _ h => h) (Or.inl ⟨by rfl, fun w hSw => by obtain ⟨q1, q2⟩ := HFC.out w hSw; go_simp⟩) (by assumption) ?_
            try simp only [Act.put, List.setIfInBounds_toArray, List.set_cons_zero, List.set_cons_succ]
            refine wpAnyH_ready (rs := [9]) (by kernel_rfl) (by simp) ?_
            refine AllReadyH.cons (o := { dst := some 9, op := Op.alloc 83, type := 0, pos := "ref.go:239", after := #[], guard := none }) rfl (fun K hK => ?_) AllReadyH.nil
            go_simp
            refine hK.out _ _ ((hHeld.alloc (Nat.le_refl _) _)) (fun hHeld => ?_)
            clear hK K
            try simp only [Act.put, List.setIfInBounds_toArray, List.set_cons_zero, List.set_cons_succ]
            refine wpAnyH_ready (rs := [10]) (by kernel_rfl) (by simp) ?_
            refine AllReadyH.cons (o := { dst := none, op := Op.store 83 (Operand.tmp 9) (Operand.tmp 44), type := 0, pos := "ref.go:239", after := #[{ on := 9, ground := Ground.data }, { on := 8, ground := Ground.data }, { on := 0, ground := Ground.phase }, { on := 1, ground := Ground.phase }, { on := 2, ground := Ground.phase }, { on := 3, ground := Ground.phase }, { on := 4, ground := Ground.phase }, { on := 5, ground := Ground.phase }, { on := 6, ground := Ground.phase }, { on := 7, ground := Ground.phase }, { on := 8, ground := Ground.phase }, { on := 9, ground := Ground.phase }], guard := none }) rfl (fun K hK => ?_) AllReadyH.nil
            go_simp
            refine hK.out _ _ (((Below.refl _ wr).drew.alloc (Nat.le_refl _) _)) (fun hHeld => ?_)
            clear hK K
            try simp only [Act.put, List.setIfInBounds_toArray, List.set_cons_zero, List.set_cons_succ]
            refine wpAnyH_done (by kernel_rfl) ?_ _
            try unfold NoPanic
            have B11 : Below wr.heap.size wr (wr.alloc (.cells #[.slice Ap lp cp, .int .i64 zp] 83)).drew := ((Below.refl _ wr).alloc (Nat.le_refl _) _).drew
            have F11 : (wr.alloc (.cells #[.slice Ap lp cp, .int .i64 zp] 83)).drew.heap[wr.heap.size]? = some (.cells #[.slice Ap lp cp, .int .i64 zp] 83) := heap_alloc_new wr _
            generalize (wr.alloc (.cells #[.slice Ap lp cp, .int .i64 zp] 83)).drew = w11 at *
            obtain ⟨r0, r1, -⟩ := row2 F11
            have hwz : IntKind.i64.wrap ((lp : Int) - zp) = (lp : Int) - zp := by rw [IntKind.wrap_i64]; omega
            go_upto_if 53 with (fail)
            go_cut [10] (fun s10 wx => wx = w11 ∧ s10 = .int .i64 (M : Int))
            case first =>
              by_cases hc : B0 < (lp : Int) - zp
              · have hwz2 : IntKind.i64.wrap (zp + B0) = zp + B0 := by rw [IntKind.wrap_i64]; omega
                go_wp2
                go_meet
                case rel => exact ⟨rfl, by rw [HCD.out, if_pos (by omega)]⟩
              · go_wp2
                go_meet
                case rel => exact ⟨rfl, by rw [HCD.out, if_neg (by omega)]⟩
            case rest =>
              obtain ⟨rfl, rfl⟩ := hcut
              have B11w := HFA.out.bel.trans (B11.mono HFA.out.bel.size)
              have hs11 : wr.heap.size < wc.heap.size := (Array.getElem?_eq_some_iff.1 F11).1
              have hb11 := (B11.block w.heap.size hl2).trans BOX.out
              have HF11 := Lib.hid F11
              have hMi : (0 : Int) ≤ M := by omega
              clear p0' p1' p2' p3' p4' p5' p6' hwz
              go_wp2
              refine wp_region_noPanic ?_
              refine wp_region_held_drew (S := fun x : World => Below w.heap.size w x ∧ x.heap[wr.heap.size]? = some (.cells #[.slice Ap lp cp, .int .i64 zp] 83)) (by kernel_rfl) ⟨B11w.drew, HF11.out⟩ (fun hHeld => ?_)
              refine wpAnyH_take (i := 1) (oi := { dst := some 59, op := Op.move (Operand.tmp 7), type := 32, pos := "ref.go:244", after := #[], guard := none }) (v := .slice (some ⟨gn, 0, none⟩) nn cn) rfl (by kernel_rfl) (by kernel_rfl) (by kernel_rfl) (fun _ _ _ h => h) (Or.inl ⟨by rfl, fun w hSw => by go_simp⟩) (by assumption) ?_
              try simp only [Act.put, List.setIfInBounds_toArray, List.set_cons_zero, List.set_cons_succ]
              refine wpAnyH_take (i := 2) (oi := { dst := some 60, op := Op.move (Operand.tmp 8), type := 3, pos := "ref.go:244", after := #[], guard := none }) (v := .int .i64 (k : Int)) rfl (by kernel_rfl) (by kernel_rfl) (by kernel_rfl) (fun _ _ _ h => h) (Or.inl ⟨by rfl, fun w hSw => by go_simp⟩) (by assumption) ?_
              try simp only [Act.put, List.setIfInBounds_toArray, List.set_cons_zero, List.set_cons_succ]
              refine wpAnyH_take (i := 3) (oi := { dst := some 61, op := Op.indexAddr 32 (Operand.tmp 59) (Operand.tmp 60), type := 0, pos := "ref.go:244", after := #[{ on := 1, ground := Ground.data }, { on := 2, ground := Ground.data }], guard := none }) (v := .pointer (some ⟨gn, k * 2, none⟩)) rfl (by kernel_rfl) (by kernel_rfl) (by kernel_rfl) (fun _ _ _ h => h) (Or.inl ⟨by rfl, fun w hSw => by go_simp⟩) (by assumption) ?_
              try simp only [Act.put, List.setIfInBounds_toArray, List.set_cons_zero, List.set_cons_succ]
              refine wpAnyH_take (i := 4) (oi := { dst := some 62, op := Op.fieldAddr 96 (Operand.tmp 61) 1, type := 0, pos := "ref.go:244", after := #[{ on := 3, ground := Ground.data }], guard := none }) (v := .pointer (some ⟨gn, k * 2 + 1, none⟩)) rfl (by kernel_rfl) (by kernel_rfl) (by kernel_rfl) (fun _ _ _ h => h) (Or.inl ⟨by rfl, fun w hSw => by go_simp⟩) (by assumption) ?_
              try simp only [Act.put, List.setIfInBounds_toArray, List.set_cons_zero, List.set_cons_succ]
              refine wpAnyH_take (i := 5) (oi := { dst := some 63, op := Op.load 3 (Operand.tmp 62), type := 3, pos := "ref.go:244", after := #[{ on := 4, ground := Ground.data }], guard := none }) (v := .int .i64 (f : Int)) rfl (by kernel_rfl) (by kernel_rfl) (by kernel_rfl) (fun _ _ _ h => h) (Or.inl ⟨by rfl, fun w hSw => by have q1 := HNC.out w hSw.1; go_simp⟩) (by assumption) ?_
              try simp only [Act.put, List.setIfInBounds_toArray, List.set_cons_zero, List.set_cons_succ]
              refine wpAnyH_take (i := 6) (oi := { dst := some 64, op := Op.fieldAddr 83 (Operand.tmp 9) 0, type := 0, pos := "ref.go:244", after := #[], guard := none }) (v := .pointer (some ⟨wr.heap.size, 0, none⟩)) rfl (by kernel_rfl) (by kernel_rfl) (by kernel_rfl) (fun _ _ _ h => h) (Or.inl ⟨by rfl, fun w hSw => by go_simp⟩) (by assumption) ?_
              try simp only [Act.put, List.setIfInBounds_toArray, List.set_cons_zero, List.set_cons_succ]
              refine wpAnyH_take (i := 7) (oi := { dst := some 65, op := Op.load 22 (Operand.tmp 64), type := 22, pos := "ref.go:244", after := #[{ on := 6, ground := Ground.data }], guard := none }) (v := .slice Ap lp cp) rfl (by kernel_rfl) (by kernel_rfl) (by kernel_rfl) (fun _ _ _ h => h) (Or.inl ⟨by rfl, fun w hSw => by obtain ⟨z0, z1, -⟩ := row2 hSw.2; go_simp⟩) (by assumption) ?_
              try simp only [Act.put, List.setIfInBounds_toArray, List.set_cons_zero, List.set_cons_succ]
              refine wpAnyH_take (i := 8) (oi := { dst := some 66, op := Op.move (Operand.tmp 10), type := 3, pos := "ref.go:244", after := #[], guard := none }) (v := .int .i64 (M : Int)) rfl (by kernel_rfl) (by kernel_rfl) (by kernel_rfl) (fun _ _ _ h => h) (Or.inl ⟨by rfl, fun w hSw => by go_simp⟩) (by assumption) ?_
              try simp only [Act.put, List.setIfInBounds_toArray, List.set_cons_zero, List.set_cons_succ]
              refine wpAnyH_take (i := 9) (oi := { dst := some 67, op := Op.move (Operand.tmp 10), type := 3, pos := "ref.go:244", after := #[], guard := none }) (v := .int .i64 (M : Int)) rfl (by kernel_rfl) (by kernel_rfl) (by kernel_rfl) (fun _ _ _ h => h) (Or.inl ⟨by rfl, fun w hSw => by go_simp⟩) (by assumption) ?_
              try simp only [Act.put, List.setIfInBounds_toArray, List.set_cons_zero, List.set_cons_succ]
              refine wpAnyH_take (i := 10) (oi := { dst := some 68, op := Op.slice 22 (Operand.tmp 65) none (some (Operand.tmp 66)) (some (Operand.tmp 67)), type := 22, pos := "ref.go:244", after := #[{ on := 7, ground := Ground.data }, { on := 8, ground := Ground.data }, { on := 9, ground := Ground.data }], guard := none }) (v := .slice Ap M M) rfl (by kernel_rfl) (by kernel_rfl) (by kernel_rfl) (fun _ _ _ h => h) (Or.inl ⟨by rfl, fun w hSw => by go_simp⟩) (by assumption) ?_
              try simp only [Act.put, List.setIfInBounds_toArray, List.set_cons_zero, List.set_cons_succ]
              refine wpAnyH_take (i := 11) (oi := { dst := some 69, op := Op.move (Operand.tmp 10), type := 3, pos := "ref.go:244", after := #[], guard := none }) (v := .int .i64 (M : Int)) rfl (by kernel_rfl) (by kernel_rfl) (by kernel_rfl) (fun _ _ _ h => h) (Or.inl ⟨by rfl, fun w hSw => by go_simp⟩) (by assumption) ?_
              try simp only [Act.put, List.setIfInBounds_toArray, List.set_cons_zero, List.set_cons_succ]
              refine wpAnyH_take (i := 12) (oi := { dst := some 70, op := Op.build 83 #[(0, Operand.tmp 68), (1, Operand.tmp 69)], type := 83, pos := "ref.go:244", after := #[{ on := 10, ground := Ground.data }, { on := 11, ground := Ground.data }], guard := none }) (v := .agg #[.slice Ap M M, .int .i64 (M : Int)]) rfl (by kernel_rfl) (by kernel_rfl) (by kernel_rfl) (fun _ _ _ h => h) (Or.inl ⟨by rfl, fun w hSw => by go_simp⟩) (by assumption) ?_
              try simp only [Act.put, List.setIfInBounds_toArray, List.set_cons_zero, List.set_cons_succ]
              refine wpAnyH_ready (rs := [0]) (by kernel_rfl) (by simp) ?_
              refine AllReadyH.cons (o := { dst := some 58, op := Op.load 35 (Operand.tmp 3), type := 35, pos := "ref.go:244", after := #[], guard := none }) rfl (fun K hK => ?_) AllReadyH.nil
              obtain ⟨y0, y1, y2, y3, y4, y5, y6, -⟩ := row7 hb11
              go_simp
              refine hK.out _ _ (hHeld) (fun hHeld => ?_)
              clear hK K
              try simp only [Act.put, List.setIfInBounds_toArray, List.set_cons_zero, List.set_cons_succ]
              clear y0 y1 y2 y3 y4 y5 y6
              refine wpAnyH_ready (rs := [13]) (by kernel_rfl) (by simp) ?_
              refine AllReadyH.cons (o := { dst := some 71, op := Op.call { callee := Callee.value (Operand.func 58), args := #[Operand.tmp 58, Operand.tmp 63, Operand.tmp 70], argTypes := #[35, 3, 83] }, type := 35, pos := "ref.go:244", after := #[{ on := 0, ground := Ground.data }, { on := 5, ground := Ground.data }, { on := 12, ground := Ground.data }], guard := none }) rfl (fun K hK => ?_) AllReadyH.nil
              go_simp
              refine (HC58.out _ B11.drew).mono ?_
              rintro e w7 ⟨lv', rfl, O7, B7⟩
              obtain ⟨A6, c6, rfl, -⟩ := own_sl (T := fun _ => .none) O7 (fun _ _ => rfl)
              have N7 := (B7.block w.heap.size (Nat.lt_trans hl2 hs11)).trans hb11
              have HO := Lib.hid (And.intro O7 (And.intro B7 N7))
              refine hK.out _ _ (⟨hHeld.1.trans (B7.mono hHeld.1.size), (B7.block _ hs11).trans hHeld.2⟩) (fun hHeld => ?_)
              clear hK K
              try simp only [Act.put, List.setIfInBounds_toArray, List.set_cons_zero, List.set_cons_succ]
              have K7 := hHeld
              clear O7 B7 N7
              refine wpAnyH_ready (rs := [14]) (by kernel_rfl) (by simp) ?_
              refine AllReadyH.cons (o := { dst := none, op := Op.store 35 (Operand.tmp 3) (Operand.tmp 71), type := 0, pos := "ref.go:244", after := #[{ on := 13, ground := Ground.data }, { on := 13, ground := Ground.chain }, { on := 0, ground := Ground.phase }, { on := 1, ground := Ground.phase }, { on := 2, ground := Ground.phase }, { on := 3, ground := Ground.phase }, { on := 4, ground := Ground.phase }, { on := 5, ground := Ground.phase }, { on := 6, ground := Ground.phase }, { on := 7, ground := Ground.phase }, { on := 8, ground := Ground.phase }, { on := 9, ground := Ground.phase }, { on := 10, ground := Ground.phase }, { on := 11, ground := Ground.phase }, { on := 12, ground := Ground.phase }, { on := 13, ground := Ground.phase }], guard := none }) rfl (fun K hK => ?_) AllReadyH.nil
              obtain ⟨t0, t1, t2, t3, t4, t5, t6, tf⟩ := row7 HO.out.2.2
              go_simp
              refine hK.out _ _ (⟨set7_below K7.1 (Nat.le_refl _) .., (set7_block _ hl4 ..).trans K7.2⟩) (fun hHeld => ?_)
              clear hK K
              try simp only [Act.put, List.setIfInBounds_toArray, List.set_cons_zero, List.set_cons_succ]
              refine wpAnyH_done (by kernel_rfl) ?_ _
              try unfold NoPanic
              have hr1 := (Array.getElem?_eq_some_iff.1 HFA.out.res).1
              have FA8 : FallAt w T (.slice A2 n2 c2) (.slice (some ⟨gw, 0, none⟩) nW c3) room left off done (Lk.set f (q.take M, (M : Int))) (((((((w7.setCell ⟨w.heap.size, 0, none⟩ (.slice A6 nk c6)).setCell ⟨w.heap.size, 1, none⟩ (.slice A2 n2 c2)).setCell ⟨w.heap.size, 2, none⟩ (.slice (some ⟨gw, 0, none⟩) nW c3)).setCell ⟨w.heap.size, 3, none⟩ (.int .i64 room)).setCell ⟨w.heap.size, 4, none⟩ (.int .i64 left)).setCell ⟨w.heap.size, 5, none⟩ (.bool off)).setCell ⟨w.heap.size, 6, none⟩ (.int .i64 done)) (.slice A6 nk c6) (fsk.set f (.slice Ap M M, (M : Int))) := by
                refine ⟨set7_below K7.1 (Nat.le_refl _) .., put7 HO.out.2.2 .., (set7_block _ (by omega) ..).trans ((HO.out.2.1.block _ (by show w.heap.size + 1 < wc.heap.size; omega)).trans ((B11.block _ hr1).trans HFA.out.res)), ?_, HFA.out.by_.set ⟨HRB.out, rfl⟩ f, fun _ g m' c' e => ?_⟩
                · rw [List.length_set, ← HNK.out]
                  exact own_sl (own_move HO.out.1 (fun b h1 h2 => set7_block _ (by have : wc.heap.size ≤ b := h1; omega) ..)) (fun b hb => HT.out b (by have : wc.heap.size ≤ b := hb; omega))
                · have h := (World.ownsRow.lt HO.out.1 g (by rw [e]; rfl)).1
                  have h : wc.heap.size ≤ g := h
                  omega
              have HFA8 := Lib.hid FA8
              clear FA8
              generalize ((((((w7.setCell ⟨w.heap.size, 0, none⟩ (.slice A6 nk c6)).setCell ⟨w.heap.size, 1, none⟩ (.slice A2 n2 c2)).setCell ⟨w.heap.size, 2, none⟩ (.slice (some ⟨gw, 0, none⟩) nW c3)).setCell ⟨w.heap.size, 3, none⟩ (.int .i64 room)).setCell ⟨w.heap.size, 4, none⟩ (.int .i64 left)).setCell ⟨w.heap.size, 5, none⟩ (.bool off)).setCell ⟨w.heap.size, 6, none⟩ (.int .i64 done) = w8 at *
              go_wp2
              exact ⟨⟨k + 1, by omega, by simp, _, _, by rw [HSS.out]; exact HFA8.out⟩, by simp [intOf]; omega⟩
          · obtain rfl : k = nn := by omega
            have hlt' : ¬ (k : Int) < k := by omega
            rw [List.take_of_length_le (by rw [← HNN.out]; exact Nat.le_refl _)] at FA
            obtain ⟨p0', p1', p2', p3', p4', p5', p6', pf'⟩ := row7 FA.box
            obtain ⟨Ak, ck, hlv, hck, -⟩ := FA.fl
            subst hlv
            have HFA := Lib.hid FA
            have hl1 := (Array.getElem?_eq_some_iff.1 FA.box).1
            have hl2 := (Array.getElem?_eq_some_iff.1 FA.res).1
            have hl3 : ¬ w.heap.size = wr.heap.size := by omega
            have hl4 : ¬ wr.heap.size = w.heap.size := by omega
            clear FA
            go_upto_region 20 with (fail)
            have e9 : ((((wr.setCell ⟨w.heap.size, 1, none⟩ (.slice An k cn)).setCell ⟨w.heap.size, 2, none⟩ (.slice (some ⟨wr.heap.size, 0, none⟩) 1 1)).setCell ⟨w.heap.size, 5, none⟩ (.bool false)).setCell ⟨w.heap.size, 4, none⟩ (.int .i64 (-1))).heap.size = wr.heap.size := by simp
            have B9 : Below w.heap.size w (((((wr.setCell ⟨w.heap.size, 1, none⟩ (.slice An k cn)).setCell ⟨w.heap.size, 2, none⟩ (.slice (some ⟨wr.heap.size, 0, none⟩) 1 1)).setCell ⟨w.heap.size, 5, none⟩ (.bool false)).setCell ⟨w.heap.size, 4, none⟩ (.int .i64 (-1))).alloc (.cells #[.slice An k cn] 32)) := ((((HFA.out.bel.setCell (Nat.le_refl _) _).setCell (Nat.le_refl _) _).setCell (Nat.le_refl _) _).setCell (Nat.le_refl _) _).alloc (by rw [e9]; omega) _
            have K9 : ∀ b, b ≠ w.heap.size → b < wr.heap.size → (((((wr.setCell ⟨w.heap.size, 1, none⟩ (.slice An k cn)).setCell ⟨w.heap.size, 2, none⟩ (.slice (some ⟨wr.heap.size, 0, none⟩) 1 1)).setCell ⟨w.heap.size, 5, none⟩ (.bool false)).setCell ⟨w.heap.size, 4, none⟩ (.int .i64 (-1))).alloc (.cells #[.slice An k cn] 32)).heap[b]? = wr.heap[b]? := fun b h1 h2 => (heap_alloc_old _ _ (by rw [e9]; exact h2)).trans ((Below.heap_setCell _ _ _ _ h1).trans ((Below.heap_setCell _ _ _ _ h1).trans ((Below.heap_setCell _ _ _ _ h1).trans (Below.heap_setCell _ _ _ _ h1))))
            have N9 := (heap_alloc_old ((((wr.setCell ⟨w.heap.size, 1, none⟩ (.slice An k cn)).setCell ⟨w.heap.size, 2, none⟩ (.slice (some ⟨wr.heap.size, 0, none⟩) 1 1)).setCell ⟨w.heap.size, 5, none⟩ (.bool false)).setCell ⟨w.heap.size, 4, none⟩ (.int .i64 (-1))) (.cells #[.slice An k cn] 32) (by rw [e9]; exact hl1)).trans (put4 HFA.out.box (.slice An k cn) (.slice (some ⟨wr.heap.size, 0, none⟩) 1 1) (.bool false) (.int .i64 (-1)))
            have M9 := (K9 (w.heap.size + 1) (by omega) hl2).trans HFA.out.res
            have A9 := heap_alloc_new ((((wr.setCell ⟨w.heap.size, 1, none⟩ (.slice An k cn)).setCell ⟨w.heap.size, 2, none⟩ (.slice (some ⟨wr.heap.size, 0, none⟩) 1 1)).setCell ⟨w.heap.size, 5, none⟩ (.bool false)).setCell ⟨w.heap.size, 4, none⟩ (.int .i64 (-1))) (.cells #[.slice An k cn] 32)
            rw [e9] at A9
            generalize (((((wr.setCell ⟨w.heap.size, 1, none⟩ (.slice An k cn)).setCell ⟨w.heap.size, 2, none⟩ (.slice (some ⟨wr.heap.size, 0, none⟩) 1 1)).setCell ⟨w.heap.size, 5, none⟩ (.bool false)).setCell ⟨w.heap.size, 4, none⟩ (.int .i64 (-1))).alloc (.cells #[.slice An k cn] 32)) = w9 at *
            obtain ⟨t0, t1, t2, t3, t4, t5, t6, tf⟩ := row7 N9
            have H9 := Lib.hid (And.intro N9 (And.intro M9 (And.intro A9 B9)))
            have HK9 := Lib.hid K9
            clear p0' p1' p2' p3' p4' p5' p6' pf' N9 A9 B9 K9 e9
            go_wp2_with (first
              | (refine wpList_put35 (x0 := .slice none 0 0) (x1 := .slice none 0 0) (x2 := .slice none 0 0) (x3 := .int .i64 0) (x4 := .int .i64 0) (x5 := .bool false) (x6 := .int .i64 0) rfl (.tmp 6) (.tmp 79) rfl (w.heap.size + 1) rfl M9 rfl ?_; intro w3 E3 G3; have HH := Lib.hid (And.intro E3 G3); clear E3 G3))
            (try simp only [Exit.inBlock, Exit.then])
            refine bodyPost_ret (res35 rfl _ _ (w.heap.size + 1) 35 _ (0, 0) rfl HH.out.1 rfl) rfl ?_
            have B3 : Below w.heap.size w w3 := H9.out.2.2.2.grown HH.out.2 H9.out.2.2.2.size (fun k h => by cases h; omega)
            have s9 := (Array.getElem?_eq_some_iff.1 H9.out.2.2.1).1
            have s3 := HH.out.2.size
            have k3 : ∀ b, b ≠ w.heap.size → b ≠ w.heap.size + 1 → b < wr.heap.size → w3.heap[b]? = wr.heap[b]? := fun b h1 h2 h3 => (HH.out.2.block b (by omega) (fun h => by injection h with h; exact h2 h)).trans (HK9.out b h1 h3)
            have fl3 := row_slot (w' := w3) HFA.out.fl (fun h0 g m' c' e hg => by
              have ha := HFA.out.ap (by rw [filL_len] at h0; omega) g m' c' e
              exact ⟨k3 g ha.1 ha.2 hg, by omega⟩)
            have nm3 := HRN.out.keep (Shf.Below.keep B3 T)
            rw [← HNN.out] at nm3
            have b0 : w3.heap[wr.heap.size]? = some (.cells #[.slice An k cn] 32) := (HH.out.2.block _ s9 (fun h => by injection h with h; omega)).trans H9.out.2.2.1
            refine ⟨_, rfl, ⟨_, _, _, fsk, [.slice An k cn], ⟨rfl, fl3, HFA.out.by_.mono (fun a b r => ⟨r.1.keep (Shf.Below.keep B3 T), r.2⟩), nm3, ?_, .cons nm3 .nil⟩⟩, B3⟩
            refine ⟨_, 1, rfl, Nat.le_refl _, (fun h => by cases h), rfl, fun _ => ⟨wr.heap.size, rfl, by omega, HT.out _ (by omega), fun j u hj => ?_⟩⟩
            rw [cell_of_row w3 _ j _ 32 (0, 0) b0]
            simpa using hj
end Go.Proofs.Ytkalgonkaoiapaa.Shf
