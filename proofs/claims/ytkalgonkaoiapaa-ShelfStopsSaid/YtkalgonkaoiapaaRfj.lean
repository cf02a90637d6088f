/- The document's own shelf: how much is used. -/
import Derived.Test.YtkalgonkaoiapaaRfh
namespace Go.Proofs.Ytkalgonkaoiapaa.Shf
open Go.ChangeShapes Go.WideShapes Go.ChangeAt Go.RowKit

def hasL (l : List (S × Nat)) (i : Nat) : Bool := l.any fun p => decide (p.2 = i)
def hasW (ll : List (List (S × Nat))) (i : Nat) : Bool := ll.any fun l => hasL l i
def usedT (L : List (S × Int)) (was : List (List (S × Nat))) : Nat → Nat
  | 0 => 0
  | i + 1 => usedT L was i + (if hasW was i = true then (L.getD i ([], 0)).1.length else 0)
def X.used (x : X) : Nat := usedT x.L x.was x.L.length
theorem hasL_take (l : List (S × Nat)) (i d : Nat) (h : d < l.length) : hasL (l.take (d + 1)) i = (hasL (l.take d) i || decide (l[d].2 = i)) := by
  unfold hasL
  rw [List.take_succ_eq_append_getElem h, List.any_append]
  simp
theorem hasW_take (ll : List (List (S × Nat))) (i d : Nat) (h : d < ll.length) : hasW (ll.take (d + 1)) i = (hasW (ll.take d) i || hasL ll[d] i) := by
  unfold hasW
  rw [List.take_succ_eq_append_getElem h, List.any_append]
  simp
theorem usedT_le (L : List (S × Int)) (was : List (List (S × Nat))) (hL : ∀ p ∈ L, p.1.length ≤ 1000000) : ∀ i, usedT L was i ≤ i * 1000000 := by
  intro i
  induction i with
  | zero => exact Nat.le_refl _
  | succ i ih =>
    unfold usedT
    have h : (L.getD i ([], 0)).1.length ≤ 1000000 := by
      rw [List.getD_eq_getElem?_getD]
      cases e : L[i]? with
      | none => exact Nat.zero_le _
      | some p => exact hL p (List.mem_of_getElem? e)
    generalize (L.getD i ([], 0)).1.length = y at *
    rw [Nat.succ_mul]
    split
    · exact Nat.add_le_add ih h
    · exact Nat.le_trans ih (Nat.le_add_right _ _)
theorem RSl.one {w : World} {T : Nat → Tag} {A : Option Addr} {n c : Nat} {us : List Value} (h : RSl w T (.slice A n c) 1 us.length us) (j : Nat) (hj : j < us.length) : ∃ g, A = some ⟨g, 0, none⟩ ∧ w.cell? ⟨g, j, none⟩ = some us[j] := by
  obtain ⟨A', c', e, h1, h2, h3, h4⟩ := h
  injection e with e1 e2 e3
  subst e1 e2 e3
  obtain ⟨g, e, i1, i2, i3⟩ := h4 (by omega)
  exact ⟨g, e, i3 _ _ (List.getElem?_eq_getElem hj)⟩
theorem bool_i {a b : Bool} (h : a = b) : Value.bool a = .bool b := by rw [h]
set_option maxRecDepth 4000 in
set_option maxHeartbeats 2000000 in
theorem xused_any (w : World) (T : Nat → Tag) (v : Value) (x : X) (h : RXE w T v x) (hb1 : x.L.length ≤ 1000000) (hb2 : x.was.length ≤ 1000000) (hL : ∀ p ∈ x.L, p.1.length ≤ 1000000) (hW : ∀ l ∈ x.was, l.length ≤ 1000000) :
    Calls Try.prog 48 #[v] w fun e w' => e = .returned (.int .i64 (x.used : Nat)) ∧ Below w.heap.size w w' := by
  obtain ⟨lv, nv, wv, fs, ws, R⟩ := h
  have hfl := R.by_.len
  have hwl := R.ol.len
  have hub := usedT_le x.L x.was hL
  rw [R.eq]
  have HR := Lib.hid R
  obtain ⟨A1, c1, e1, -⟩ := R.fl
  obtain ⟨A2, n2, c2, e2⟩ := R.nm.isSl
  obtain ⟨A3, c3, e3, -⟩ := R.wa
  clear R hL
  subst e1 e2 e3
  obtain ⟨L, now, was, room, left, off, done⟩ := x
  unfold X.used
  simp only at hfl hwl hb1 hb2 hub hW ⊢
  unfold RfV
  have B1 : Below w.heap.size w (w.alloc (.cells #[.slice A1 fs.length c1, .slice A2 n2 c2, .slice A3 ws.length c3, .int .i64 room, .int .i64 left, .bool off, .int .i64 done] 35)) := (Below.refl _ w).alloc (Nat.le_refl _) _
  have N1 := heap_alloc_new w (.cells #[.slice A1 fs.length c1, .slice A2 n2 c2, .slice A3 ws.length c3, .int .i64 room, .int .i64 left, .bool off, .int .i64 done] 35)
  have R1 := HR.out.keep (Shf.Below.keep B1 T)
  have HR1 := Lib.hid R1
  clear R1 HR
  obtain ⟨nL, hnL⟩ : ∃ n, n = L.length := ⟨_, rfl⟩
  obtain ⟨nW, hnW⟩ : ∃ n, n = was.length := ⟨_, rfl⟩
  rw [← hnL] at hfl hb1 ⊢
  rw [← hnW] at hwl hb2
  rw [hfl, hwl] at B1 N1 HR1 ⊢
  have HFL := Lib.hid hfl
  have HWL := Lib.hid hwl
  have HNL := Lib.hid hnL
  have HNW := Lib.hid hnW
  have HUB := Lib.hid hub
  clear hfl hwl hnL hnW hub
  go_enter Try.func48, Try.ntmps48
  go_wp2
  generalize w.alloc (.cells #[.slice A1 nL c1, .slice A2 n2 c2, .slice A3 nW c3, .int .i64 room, .int .i64 left, .bool off, .int .i64 done] 35) = w1 at *
  obtain ⟨p0, p1, p2, p3, p4, p5, p6, -⟩ := row7 N1
  clear N1
  go_loopw [3, 4] (fun nn i wr => wr = w1 ∧ ∃ a : Nat, a ≤ nL ∧ i = .int .i64 a ∧ nn = .int .i64 (usedT L was a : Nat)) (fun _ i _ => nL - (intOf i).toNat)
  case atStart => exact ⟨rfl, 0, Nat.zero_le _, rfl, rfl⟩
  case round =>
    obtain ⟨rfl, a, ha, rfl, rfl⟩ := hrel
    by_cases hlt : a < nL
    · have hlt' : (a : Int) < nL := by omega
      go_wp2
      go_loopw [5, 6] (fun b j wr2 => wr2 = wr ∧ ∃ c : Nat, c ≤ nW ∧ j = .int .i64 c ∧ b = .bool (hasW (was.take c) a)) (fun _ j _ => nW - (intOf j).toNat)
      case atStart => exact ⟨rfl, 0, Nat.zero_le _, rfl, rfl⟩
      case round =>
        obtain ⟨rfl, c, hc, rfl, rfl⟩ := hrel
        by_cases hlt2 : c < nW
        · have hlt2' : (c : Int) < nW := by omega
          have hcw : c < ws.length := by rw [HWL.out]; exact hlt2
          have hcl : c < was.length := by rw [← HNW.out]; exact hlt2
          have hwa := HR1.out.wa
          rw [← HWL.out] at hwa
          obtain ⟨gw, e3, hcell⟩ := RSl.one hwa c hcw
          subst e3
          obtain ⟨A', c', hv, hle, hA', hC⟩ := HR1.out.ol.at c hcw hcl
          rw [hv] at hcell
          have hst := hasW_take was a c hcl
          have HC := Lib.hid hC
          have HST := Lib.hid hst
          obtain ⟨nl, hnl⟩ : ∃ n, n = (was[c]).length := ⟨_, rfl⟩
          rw [← hnl] at hcell
          have HNl := Lib.hid hnl
          have hnl9 : nl ≤ 1000000 := by rw [hnl]; exact hW _ (List.getElem_mem hcl)
          clear hwa hv hst hC hnl hle hA'
          go_wp2
          go_loopw [5, 7] (fun b k wr3 => wr3 = wr ∧ ∃ d : Nat, d ≤ nl ∧ k = .int .i64 d ∧ b = .bool (hasW (was.take c) a || hasL ((was[c]).take d) a)) (fun _ k _ => nl - (intOf k).toNat)
          case atStart => exact ⟨rfl, 0, Nat.zero_le _, rfl, bool_i (by simp [hasL])⟩
          case round =>
            obtain ⟨rfl, d, hd, rfl, rfl⟩ := hrel
            by_cases hlt3 : d < nl
            · have hlt3' : (d : Int) < nl := by omega
              have hdl : d < (was[c]).length := by rw [← HNl.out]; exact hlt3
              obtain ⟨gn, en, _, d1⟩ := RNm.at HC.out d hdl
              subst en
              have hs3 := hasL_take (was[c]) a d hdl
              have hdec : ((((was[c])[d]).2 : Int) == (a : Int)) = decide (((was[c])[d]).2 = a) := by
                rw [Bool.eq_iff_iff]; simp; omega
              obtain ⟨B, hB⟩ : ∃ B, B = (hasW (was.take c) a || hasL ((was[c]).take d) a) := ⟨_, rfl⟩
              have hst3 : (hasW (was.take c) a || hasL ((was[c]).take (d + 1)) a) = (B || decide (((was[c])[d]).2 = a)) := by rw [hs3, ← Bool.or_assoc, ← hB]
              rw [← hB]
              have HS3 := Lib.hid hst3
              generalize ((was[c])[d]).2 = y at *
              clear hs3 hst3 hB
              cases B with
              | true =>
                go_wp2
                exact ⟨⟨trivial, d + 1, by omega, by simp, bool_i (by rw [HS3.out]; simp)⟩, by simp [intOf]; omega⟩
              | false =>
                by_cases hy : y = a
                · have hb : ((y : Int) == (a : Int)) = true := by simp; omega
                  rw [decide_eq_true hy] at HS3
                  clear hdec hy
                  go_wp2
                  exact ⟨⟨trivial, d + 1, by omega, by simp, bool_i (by rw [HS3.out]; simp)⟩, by simp [intOf]; omega⟩
                · have hb : ((y : Int) == (a : Int)) = false := by simp; omega
                  rw [decide_eq_false hy] at HS3
                  clear hdec hy
                  go_wp2
                  exact ⟨⟨trivial, d + 1, by omega, by simp, bool_i (by rw [HS3.out]; simp)⟩, by simp [intOf]; omega⟩
            · obtain rfl : d = nl := by omega
              have hlt3' : ¬ (d : Int) < d := by omega
              have htk : (was[c]).take d = was[c] := List.take_of_length_le (by rw [← HNl.out]; exact Nat.le_refl _)
              rw [htk]
              generalize (hasW (was.take c) a || hasL (was[c]) a) = B at *
              clear htk
              go_wp2
              exact ⟨⟨trivial, c + 1, by omega, by simp, bool_i (by rw [HST.out])⟩, by simp [intOf]; omega⟩
        · obtain rfl : c = nW := by omega
          have hlt2' : ¬ (c : Int) < c := by omega
          have htk : was.take c = was := List.take_of_length_le (by rw [← HNW.out]; exact Nat.le_refl _)
          rw [htk]
          have hus : usedT L was (a + 1) = usedT L was a + (if hasW was a = true then (L.getD a ([], 0)).1.length else 0) := rfl
          have hu1 := HUB.out (a + 1)
          have haf : a < fs.length := by rw [HFL.out]; exact hlt
          have haL : a < L.length := by rw [← HNL.out]; exact hlt
          have hgD : L.getD a ([], 0) = L[a] := by rw [List.getD_eq_getElem?_getD, List.getElem?_eq_getElem haL]; rfl
          rw [hgD] at hus
          have hfl := HR1.out.fl
          obtain ⟨g1, e1, _, _, _, FC⟩ := RSl.fil hfl a haf
          subst e1
          obtain ⟨Ap, cp, hp, _, _⟩ := (HR1.out.by_.at a haf haL).1.form
          have d0 := (FC wr (Below.refl _ _)).1
          rw [hp] at d0
          generalize (L[a]).1.length = y at *
          have hu2 : (a + 1) * 1000000 ≤ 1000000000000 := by omega
          clear FC hp hfl htk hgD
          cases hB : hasW was a with
          | true =>
            rw [hB, if_pos rfl] at hus
            rw [hus] at hu1
            have HUS := Lib.hid hus
            generalize usedT L was a = U at *
            have hU : U + y ≤ 1000000000000 := by omega
            have hwU : IntKind.i64.wrap ((U : Int) + (y : Int)) = (U : Int) + y := by rw [IntKind.wrap_i64]; omega
            clear hus hB hu1 hu2
            go_wp2
            exact ⟨⟨trivial, a + 1, by omega, by simp, by rw [HUS.out]; simp⟩, by simp [intOf]; omega⟩
          | false =>
            rw [hB, if_neg (by simp)] at hus
            have HUS := Lib.hid hus
            generalize usedT L was a = U at *
            clear hus hB hu1 hu2
            go_wp2
            exact ⟨⟨trivial, a + 1, by omega, by simp, by rw [HUS.out]; simp⟩, by simp [intOf]; omega⟩
    · obtain rfl : a = nL := by omega
      have hlt' : ¬ (a : Int) < a := by omega
      go_wp2
      go_ret
      exact ⟨rfl, B1⟩
end Go.Proofs.Ytkalgonkaoiapaa.Shf
