/-
  'For every input the Go function milestonelaw08.TableBytes returns true, and each argument reads behind the call as it read before.'
  Conditions: none but the row's own (linux/amd64, sizes of what is read within the address space).
-/
import Derived.Test.YtcgncecjbkpmkaaRows
import Derived.WalkKit
import Derived.ProofKit
import Derived.OpenShut
import Derived.ShutString
import Derived.ChangeOld
import Derived.Below
import Derived.Lib.SmallJoins
import Derived.Lib.Hide
import Derived.Test.YtcgncecjbkpmkaaKw
import Derived.Test.YtcgncecjbkpmkaaKx
import Derived.Test.YtcgncecjbkpmkaaHo
import Derived.Test.YtcgncecjbkpmkaaLi
namespace Go.Proofs.Ytcgncecjbkpmkaa.tableBytes
open Pre
open Ser
open Chg
open Coin
open Tab
open Go.ChangeShapes Go.WideShapes Go.ChangeAt Go.RowKit
open Go.ChangeMaps (open_string shut_string)
set_option linter.unusedVariables false

theorem own : ownKnob Try.prog.godebug = none := by kernel_rfl
theorem laidOut : laidOutB Try.prog = true := by kernel_rfl

/-- What the walk is told of a slice of integers that came in. -/
def IsRow (k : IntKind) (w : World) (a : Option Addr) (len cap : Nat) (zs : List Int) : Prop :=
  (a = none ∧ len = 0 ∧ cap = 0 ∧ zs = []) ∨
  ∃ x, a = some x ∧ len ≤ cap ∧ cap ≤ maxLen ∧ zs.length = cap ∧ (∀ i, i < zs.length → w.cell? (x.add i) = some (.int k (zs.getD i 0))) ∧ ∀ n ∈ zs, (Lit.int k n).wf = true

theorem bytes_of {w : World} {a : Option Addr} {len cap : Nat} {z : List Int} (h : IsRow .u8 w a len cap z) : ∃ l : List UInt8, len = l.length ∧ len ≤ maxLen ∧ len ≤ cap ∧ Rd w w.heap.size a l ∧ (a = none → cap = 0) := by
  rcases h with ⟨rfl, rfl, rfl, rfl⟩ | ⟨x, rfl, h1, h2, h3, h4, h5⟩
  · exact ⟨[], rfl, by unfold maxLen; omega, Nat.le_refl _, Rd.nil _ _ _, fun _ => rfl⟩
  · refine ⟨(z.take len).map fun n => UInt8.ofNat n.toNat, by simp; omega, by omega, h1, fun h0 => ⟨x, rfl, ?_, fun j hj => ?_⟩, fun h => by cases h⟩
    · have hc := h4 0 (by simp at h0; omega)
      have := block_lt_of_cell hc
      rwa [Coin.block_add] at this
    · simp at hj
      have hz : z[j] ∈ z := List.getElem_mem _
      have hb := bounds_u8 (h5 _ hz)
      have hc := h4 j (by omega)
      have e : z.getD j 0 = z[j] := by rw [List.getD_eq_getElem?_getD, List.getElem?_eq_getElem]; rfl
      rw [e] at hc
      rw [hc]
      simp only [List.getElem_map, List.getElem_take, b8]
      congr 2
      simp; omega

theorem own_apart {w : World} {B : Nat} {v : Value} {l : List UInt8} (h : Own w B v l) : v.ownBlock ≠ some w.heap.size := by
  obtain ⟨_, ⟨rfl, h0⟩ | ⟨g, cap, cur, rfl, _, hg, hle, _, _, _⟩⟩ := h
  · simp [Value.ownBlock]
  · have := (Array.getElem?_eq_some_iff.1 hg).1
    simp only [Value.ownBlock]
    intro e
    injection e with e
    omega
theorem rd_zero (W : World) : Rd (W.alloc (.cells #[.int .u8 0] 5)) (W.alloc (.cells #[.int .u8 0] 5)).heap.size (some ⟨W.heap.size, 0, none⟩) (coins [0]) := by
  have hz : coins [0] = [(0 : UInt8)] := by decide +kernel
  rw [hz]
  have h := Own.lit W W.heap.size [(0 : UInt8)] (Nat.le_refl _) (by simp)
  have e : ([(0 : UInt8)].map b8).toArray = #[.int .u8 0] := by simp [b8]
  rw [e] at h
  obtain ⟨A, c, hA, hr, -, -⟩ := h.form
  injection hA with hA1 _ _
  rw [hA1]
  exact hr
theorem w64 (v1 : Nat) (h : v1 < 9223372036854775808) : wrap64 (v1 : Int) = v1 := by unfold wrap64; omega
theorem u64w (v1 : Nat) (h : v1 < 9223372036854775808) : IntKind.u64.wrap (v1 : Int) = v1 := by rw [wrap_u64]; omega
theorem zero_len : 1 = (coins [0]).length := by decide +kernel
theorem enc_pos (t : T) : 0 < t.enc.length := by
  unfold T.enc coins
  simp [coin]
theorem rows_five (rs : List R) : 5 * rs.length ≤ (rs.flatMap rowB).length := by
  induction rs with
  | nil => simp
  | cons r rs ih =>
    have h : 5 ≤ (rowB r).length := by
      unfold rowB coins
      cases r.has <;> simp [coin] <;> omega
    simp only [List.flatMap_cons, List.length_append, List.length_cons]
    omega
theorem enc_five {t : T} {l : List UInt8} (h : t.enc = l) : 5 * t.rows.length ≤ l.length := by
  rw [← h]
  unfold T.enc
  have := rows_five t.rows
  rw [List.length_append]
  omega
/-- One byte of an own slice is written over. -/
theorem turn_row {W : World} {B : Nat} {A : Option Addr} {m c : Nat} {y : List UInt8} (h : Own W B (.slice A m c) y) (hm : m = y.length) (h0 : 0 < m) :
    ∃ g, A = some ⟨g, 0, none⟩ ∧ B ≤ g ∧ g < W.heap.size ∧ m ≤ c ∧ ∀ ix, ix < m → ∃ x : Nat, x < 256 ∧ W.cell? ⟨g, ix, none⟩ = some (.int .u8 (x : Int)) ∧ W.frozen? ⟨g, ix, none⟩ = false ∧
      ∀ z : Nat, z < 256 → ∃ y' : List UInt8, y'.length = m ∧ Rd (W.setCell ⟨g, ix, none⟩ (.int .u8 (z : Int))) (g + 1) A y' := by
  obtain ⟨hxl, ⟨he, _⟩ | ⟨g, cap, cur, he, hg, hrow, h1, h2, h3, h4⟩⟩ := h
  · injection he with _ e2 _
    omega
  · injection he with e1 e2 e3
    subst e1
    have hgl : g < W.heap.size := (Array.getElem?_eq_some_iff.1 hrow).1
    have hcur : ∀ j (hj : j < y.length), cur[j]? = some (b8 y[j]) := fun j hj => by
      have e : (cur.toList.take (y.length * 1))[j]? = some (b8 y[j]) := by
        rw [h4]
        simp [hj]
      rw [List.getElem?_take_of_lt (by omega)] at e
      simpa using e
    refine ⟨g, rfl, hg, hgl, by omega, fun ix hi => ⟨(y[ix]'(by omega)).toNat, (y[ix]'(by omega)).toNat_lt, ?_, frozen_of_row W g ix _ 5 hrow, fun z hz => ⟨y.set ix (UInt8.ofNat z), by simp; omega, fun _ => ⟨_, rfl, Nat.lt_succ_self _, fun j hj => ?_⟩⟩⟩⟩
    · rw [cell_of_row W g ix _ 5 (0, 0) hrow, hcur ix (by omega)]
      rfl
    · rw [zero_add']
      have hr2 := heap_setCell_same W g ix cur 5 (.int .u8 (z : Int)) hrow
      rw [cell_of_row _ g j _ 5 (0, 0) hr2]
      simp only [List.length_set] at hj
      have := hcur j hj
      have hcs : cur.size = cap := by omega
      by_cases e : ix = j
      · subst e
        rw [Array.getElem?_setIfInBounds_self_of_lt (by omega)]
        simp [b8_small z hz]
      · rw [Array.getElem?_setIfInBounds_ne e, this]
        simp [e]
theorem dec_case {w w' : World} {l : List UInt8} {e : Ending} (h : DecB w l e w') : ∃ (pv : Value) (er : Nat), e = .returned (.tuple #[pv, .int .i64 (er : Int)]) ∧ Hid (Below w.heap.size w w' ∧ ((er ≠ 0 ∧ pv = .pointer none) ∨
    ∃ t q v, er = 0 ∧ pv = .pointer (some ⟨q, 0, none⟩) ∧ TabAt w' w.heap.size q t v ∧ t.enc = l ∧ (∀ r ∈ t.rows, r.Fits) ∧ t.no < 18446744073709551616 ∧ t.time < 18446744073709551616 ∧ t.rows.length ≤ l.length)) := by
  obtain ⟨hb, ⟨er, h1, h2⟩ | ⟨t, q, v, h1, h2⟩⟩ := h
  · exact ⟨_, er, h2, hb, Or.inl ⟨h1, rfl⟩⟩
  · exact ⟨_, 0, h1, hb, Or.inr ⟨t, q, v, rfl, rfl, h2⟩⟩
theorem xor8 (x t : Nat) (hx : x < 256) (ht : t < 256) : ∃ z : Nat, z < 256 ∧ bits .xor .u8 (x : Int) (t : Int) = (z : Int) :=
  ⟨x ^^^ t, Nat.xor_lt_two_pow (n := 8) hx ht, u8_xor_nat x t hx ht⟩
theorem rem_nat (a : Int) (m : Nat) (h0 : 0 ≤ a) (hm : 0 < m) : ∃ ix : Nat, ix < m ∧ a.tmod (m : Int) = (ix : Int) :=
  ⟨(a.tmod m).toNat, by have := Int.tmod_lt_of_pos a (show (0 : Int) < m by omega); have := Int.tmod_nonneg (m : Int) h0; omega, by have := Int.tmod_nonneg (m : Int) h0; omega⟩

set_option maxRecDepth 100000 in
set_option maxHeartbeats 4000000 in
theorem walk (a0 : Option Addr) (len0 cap0 : Nat) (z0 : List ActD) (a1 : Option Addr) (len1 cap1 : Nat) (z1 : List Int) (a2 : Int) (a3 : Int) (w : World) (w0 : IsActs w a0 len0 cap0 z0) (w1 : IsRow .u8 w a1 len1 cap1 z1) (w2 : (Lit.int .u16 a2).wf = true) (w3 : (Lit.int .u8 a3).wf = true) :
    Calls Try.prog 4 #[.slice a0 len0 cap0, .slice a1 len1 cap1, .int .u16 a2, .int .u8 a3] w fun e w' => e = .returned (.bool true) ∧ Below w.heap.size w w' := by
  obtain ⟨hl1, hl2, hl3, HA, hnil⟩ := w0
  unfold maxLen at hl3
  obtain ⟨p, hp1, hp2, hp3, RP, hpn⟩ := bytes_of w1
  have hc2 := bounds_u16 w2
  have hc3 := bounds_u8 w3
  clear w1 w2 w3
  unfold maxLen at hp2
  by_cases h2 : 40 < len0
  · have h2' : (40 : Int) < len0 := by omega
    clear h2 hl1 HA hp1 RP hpn hnil
    go_enter Try.func4, Try.ntmps4
    go_wp2_with fail
    refine (awake_any _).mono ?_
    rintro e w1 ⟨rfl, h1⟩
    go_wp2_with fail
    refine (awake_any _).mono ?_
    rintro e w2 ⟨rfl, h2⟩
    go_wp2_with fail
    go_ret
    exact ⟨rfl, h1.trans (h2.mono h1.size)⟩
  have h2' : ¬ (40 : Int) < len0 := by omega
  by_cases h3 : 100 < len1
  · have h3' : (100 : Int) < len1 := by omega
    clear h3 hl1 HA hp1 RP hpn hnil h2
    go_enter Try.func4, Try.ntmps4
    go_wp2_with fail
    refine (awake_any _).mono ?_
    rintro e w1 ⟨rfl, h1⟩
    go_wp2_with fail
    refine (awake_any _).mono ?_
    rintro e w2 ⟨rfl, h2⟩
    go_wp2_with fail
    go_ret
    exact ⟨rfl, h1.trans (h2.mono h1.size)⟩
  have h3' : ¬ (100 : Int) < len1 := by omega
  have hl40 : len0 ≤ 40 := by omega
  have hl60 : len0 ≤ 60 := by omega
  have HL := Lib.hid (And.intro hl1 HA)
  have HP := Lib.hid (And.intro hp1 (And.intro RP (And.intro hp3 hpn)))
  have hp100 : len1 ≤ 100 := by omega
  clear h2 h3 hl1 HA hnil hp1 RP hpn hp2 hp3
  go_enter Try.func4, Try.ntmps4
  go_wp2_with (first
    | (go_at_call 6; (with_reducible refine (awake_any _).mono ?_); rintro e w1 ⟨rfl, B1⟩; have HB1 := Lib.hid B1; clear B1)
    | (go_at_call 7; (with_reducible refine (history_exact _ a0 len0 cap0 z0 HL.out.1 hl60 (HL.out.2.below HB1.out)).mono ?_); rintro e w2 ⟨v2, cs, rfl, O2, L2, G2, B2⟩; obtain ⟨A1, c1, hv2, hsl, -⟩ := O2.form; rw [L2] at hv2; subst hv2; have hto := take_ok (G2.gd (by have := HL.out.1; omega)) cs.length (Nat.le_refl _); rw [List.take_length] at hto; have HH := Lib.hid (And.intro hsl (And.intro L2 (And.intro (G2.gd (by have := HL.out.1; omega)) (HB1.out.trans (B2.mono HB1.out.size))))); have HTO := Lib.hid hto; clear O2 L2 G2 B2 hsl hto)
    | (go_at_call 8; (with_reducible refine (of_any _ A1 len0 c1 cs HH.out.2.1.symm hl60 HH.out.1 HH.out.2.2.1).mono ?_); rintro e w3 ⟨q1, v3, rfl, T3, B3⟩; have HT1 := Lib.hid (And.intro T3 (And.intro B3 (HH.out.2.2.2.trans (B3.mono HH.out.2.2.2.size)))); clear T3 B3)
    | (go_at_call 19; (with_reducible refine (encode_any _ _ q1 (tabOf cs) v3 HT1.out.1 (fun r hr => (HTO.out.1.ok r hr).fits) HTO.out.1.no HTO.out.1.time (by have := HTO.out.2.1; have := HH.out.2.1; omega)).mono ?_); rintro e w4 ⟨v4, rfl, O4, B4⟩; obtain ⟨A4, c4, hv4, hrd4, -, -⟩ := O4.form; obtain ⟨m4, hm4⟩ : ∃ m4, m4 = (tabOf cs).enc.length := ⟨_, rfl⟩; rw [← hm4] at hv4; subst hv4; have HE1 := Lib.hid (And.intro O4 (And.intro hm4 (And.intro B4 (HT1.out.2.2.trans (B4.mono HT1.out.2.2.size))))); clear O4 B4 hrd4 hm4)
    | (go_at_call 9; (with_reducible refine (last_any _ _ q1 (tabOf cs) v3 (HT1.out.1.kept HE1.out.2.2.1)).mono ?_); rintro e w5 ⟨rfl, B5⟩; obtain ⟨no, hno⟩ : ∃ no, no = (tabOf cs).no := ⟨_, rfl⟩; obtain ⟨tm, htm⟩ : ∃ tm, tm = (tabOf cs).time := ⟨_, rfl⟩; rw [← hno, ← htm]; have HB5 := Lib.hid (And.intro B5 (And.intro hno htm)); clear B5 hno htm)
    | (go_at_call 15; (with_reducible refine (rrows_any _ A1 len0 c1 cs HH.out.2.1.symm hl60 (((HH.out.1.below HT1.out.2.1).below HE1.out.2.2.1).below HB5.out.1) HH.out.2.2.1).mono ?_); rintro e w6 ⟨v6, rfl, O6, B6⟩; obtain ⟨A6, c6, hv6, hs6, -⟩ := O6.form; obtain ⟨m, hm⟩ : ∃ m, m = (tabOf cs).rows.length := ⟨_, rfl⟩; have hm60 : m ≤ 40 := (by have := HTO.out.2.1; have := HH.out.2.1; omega); have hwm : IntKind.u64.wrap (m : Int) = m := (by rw [wrap_u64]; omega); rw [← hm] at hv6; subst hv6; have HB6 := Lib.hid (And.intro hs6 (And.intro hm (HB5.out.1.trans (B6.mono HB5.out.1.size)))); clear O6 B6 hs6 hm)
    | (go_at_call 20; (with_reducible refine (rcoins_any _ w6.heap.size 3 [no, tm, m] (heap_alloc_new w6 (.cells #[.int .u64 (no : Int), .int .u64 (tm : Int), .int .u64 (m : Int)] 28)) (by have h1 := HTO.out.1.no; have h2 := HTO.out.1.time; have h3 := HB5.out.2; intro k hk; simp at hk; omega) rfl (by decide)).mono ?_); rintro e w7 ⟨v7, rfl, O7, B7⟩; have HW7 := Lib.hid (And.intro (own_mono (B' := w6.heap.size) O7 (by simp)) (((Below.refl w6.heap.size w6).alloc (Nat.le_refl _) _).trans (B7.mono (by simp)))); clear O7 B7))
  have hcl := coins_len [no, tm, m]
  simp only [List.length_cons, List.length_nil] at hcl
  go_loopw [15, 16] (fun p i wr => ∃ j : Nat, j ≤ m ∧ i = .int .i64 j ∧ Hid (Own wr w6.heap.size p (coins [no, tm, m] ++ ((tabOf cs).rows.take j).flatMap rowB) ∧ Below w6.heap.size w6 wr)) (fun _ i _ => m - (intOf i).toNat)
  case atStart => exact ⟨0, by omega, rfl, ⟨by simpa using HW7.out.1, HW7.out.2⟩⟩
  case round =>
    obtain ⟨j, hj, rfl, HR⟩ := hrel
    by_cases hlt : j < m
    · have hjl : j < (tabOf cs).rows.length := by rw [← HB6.out.2.1]; exact hlt
      obtain ⟨bb, oo, ea, hb, hca⟩ := (HB6.out.1.below HR.out.2) j hjl
      subst ea
      have hfit := (HTO.out.1.ok _ (List.getElem_mem hjl)).fits
      have HVIA := Lib.hid (HTO.out.1.ok _ (List.getElem_mem hjl)).2.2.1
      have hnx : ((tabOf cs).rows.take (j + 1)).flatMap rowB = ((tabOf cs).rows.take j).flatMap rowB ++ rowB (tabOf cs).rows[j] := by
        rw [List.take_succ_eq_append_getElem hjl, List.flatMap_append]
        simp
      have hrl := rows_len ((tabOf cs).rows.take j)
      rw [show ((tabOf cs).rows.take j).length = j by rw [List.length_take]; omega] at hrl
      obtain ⟨k0, k1, k2, k3, k4, k5, k6, k7, k8, k9⟩ := hca
      generalize (tabOf cs).rows[j] = r at *
      have hr63 := rowB_len r
      obtain ⟨x, hx⟩ : ∃ x, x = rowB r := ⟨_, rfl⟩
      have hx2 := hx
      unfold rowB at hx2
      rw [← hx] at hr63 hnx
      clear hx
      obtain ⟨h1, h2, h3, h4, h5, h6, h7⟩ := hfit
      have hvia := HVIA.out
      clear HVIA
      obtain ⟨a, n, has, v, mt, s, ms, mm⟩ := r
      simp only at hvia h1 h2 h3 h4 h5 h6 h7 hx2 k0 k1 k2 k3 k4 k5 k6 k7 k8 k9
      obtain ⟨v1, hv0⟩ : ∃ v1, v1 = v + 1 := ⟨_, rfl⟩
      have hv1 : IntKind.u64.wrap ((v : Int) + 1) = (v1 : Int) := by rw [wrap_u64]; omega
      have hv2 : (v : Int) + 1 = (v1 : Int) := by omega
      have hv3 : v1 < 18446744073709551616 := by omega
      have HV4 := Lib.hid (w64 v1 (by omega))
      have HV5 := Lib.hid (u64w v1 (by omega))
      rw [← hv0] at hx2
      clear hv0
      have HX := Lib.hid (And.intro hx2 (And.intro hnx (And.intro hrl hr63)))
      clear hx2 hnx hrl hr63
      have HC1 : Hid (∀ W b, W.heap[b]? = some (.cells #[.int .u64 (a : Int), .int .u64 (n : Int), .int .u64 (ms : Int), .int .u64 (mm : Int)] 28 (0, 0)) → Calls Try.prog 20 #[.slice (some ⟨b, 0, none⟩) 4 4] W (CoinOwn W (coins [a, n, ms, mm]))) := fun W b hb => rcoins_any W b 4 [a, n, ms, mm] hb (by intro k hk; simp at hk; omega) rfl (by decide)
      have HC3 : Hid (∀ W b, W.heap[b]? = some (.cells #[.int .u64 (v1 : Int), .int .u64 (mt : Int), .int .u64 (s : Int)] 28 (0, 0)) → Calls Try.prog 20 #[.slice (some ⟨b, 0, none⟩) 3 3] W (CoinOwn W (coins [v1, mt, s]))) := fun W b hb => rcoins_any W b 3 [v1, mt, s] hb (by intro k hk; simp at hk; omega) rfl (by decide)
      obtain ⟨A3, c3, hv3, -, -, -⟩ := HR.out.1.form
      obtain ⟨n3, hn3⟩ : ∃ n3, n3 = (coins [no, tm, m] ++ ((tabOf cs).rows.take j).flatMap rowB).length := ⟨_, rfl⟩
      rw [← hn3] at hv3
      have hn3l : n3 ≤ 27 + 63 * j := by
        rw [hn3, List.length_append]
        have := HX.out.2.2.1
        omega
      obtain ⟨X, hX⟩ : ∃ X, X = coins [no, tm, m] ++ ((tabOf cs).rows.take j).flatMap rowB := ⟨_, rfl⟩
      rw [← hX] at hn3
      have HXX := Lib.hid (And.intro hn3 hX)
      have HR' := HR.out
      rw [← hX] at HR'
      have HR2 := Lib.hid HR'
      clear hn3 HR' hX
      subst hv3
      clear HR
      have R0 := heap_alloc_new wr (.cells #[.int .u32 (a : Int), .int .u8 (n : Int), .bool has, .int .u32 (a : Int), .int .u8 (n : Int), .int .i64 (v : Int), .int .u16 (mt : Int), .int .u16 (s : Int), .int .u16 (ms : Int), .int .u16 (mm : Int)] 43)
      have B0 : Below w6.heap.size w6 (wr.alloc (.cells #[.int .u32 (a : Int), .int .u8 (n : Int), .bool has, .int .u32 (a : Int), .int .u8 (n : Int), .int .i64 (v : Int), .int .u16 (mt : Int), .int .u16 (s : Int), .int .u16 (ms : Int), .int .u16 (mm : Int)] 43)) := HR2.out.2.alloc HR2.out.2.size _
      have O0 := HR2.out.1.kept ((Below.refl wr.heap.size wr).alloc (Nat.le_refl _) (.cells #[.int .u32 (a : Int), .int .u8 (n : Int), .bool has, .int .u32 (a : Int), .int .u8 (n : Int), .int .i64 (v : Int), .int .u16 (mt : Int), .int .u16 (s : Int), .int .u16 (ms : Int), .int .u16 (mm : Int)] 43))
      go_upto_region 15 with (fail)
      generalize wr.alloc _ = wa at *
      clear k0 k1 k2 k3 k4 k5 k6 k7 k8 k9
      obtain ⟨⟨k0, k1, k2, k3, k4, k5, k6, k7, k8, k9⟩, kf⟩ := Tab.row10 R0
      have e0 : wr.heap.size < wa.heap.size := (Array.getElem?_eq_some_iff.1 R0).1
      have HZ := Lib.hid (And.intro R0 (And.intro B0 O0))
      clear R0 B0 O0
      have HAP := Lib.hid (own_apart HR2.out.1)
      have hl4 := coins_len [a, n, ms, mm]
      have hl3 := coins_len [v1, mt, s]
      simp only [List.length_cons, List.length_nil] at hl4 hl3
      go_upto_region 16 with (first
        | (go_at_call 20; (with_reducible refine (HC1.out _ wa.heap.size (heap_alloc_new _ _)).mono ?_); rintro e wb ⟨u4, rfl, O4, B4⟩; obtain ⟨A5, c5, hu4, hrd4, -, hn4⟩ := O4.form; obtain ⟨m5, hm5⟩ : ∃ m5, m5 = (coins [a, n, ms, mm]).length := ⟨_, rfl⟩; rw [← hm5] at hu4; subst hu4; have R1 := (B4.block wr.heap.size (by simp; omega)).trans ((heap_alloc_old _ _ e0).trans HZ.out.1); have HZ4 := Lib.hid (And.intro (And.intro hrd4 (And.intro hm5 hn4)) (And.intro ((HZ.out.2.2.kept ((Below.refl _ _).alloc (Nat.le_refl _) _)).kept B4) (And.intro ((HZ.out.2.1.alloc HZ.out.2.1.size _).trans (B4.mono (by have := HZ.out.2.1.size; simp; omega))) R1))); clear O4 B4 hrd4 hm5 hn4 R1 k0 k1 k2 k3 k4 k5 k6 k7 k8 k9 kf)
        | (at_builtin; refine app_any rfl (.tmp 69) (.tmp 87) rfl w6.heap.size _ X (coins [a, n, ms, mm]) A5 m5 c5 wb.heap.size rfl rfl HZ4.out.2.1 HZ4.out.1.1 HZ4.out.1.2.1 HZ4.out.1.2.2 (by have := HXX.out.1; omega) HZ4.out.2.2.1.size w6.heap.size w6 HZ4.out.2.2.1 (Nat.le_refl _) ?_; intro v5 wc O5 B5 G5; have R2 := (G5.block wr.heap.size (Array.getElem?_eq_some_iff.1 HZ4.out.2.2.2).1 HAP.out.symm).trans HZ4.out.2.2.2; have HZ5 := Lib.hid (And.intro O5 (And.intro B5 R2)); clear O5 B5 G5 R2))
      obtain ⟨⟨k0, k1, k2, k3, k4, k5, k6, k7, k8, k9⟩, kf⟩ := Tab.row10 HZ5.out.2.2
      obtain ⟨A6', c6', hv5, -, -, -⟩ := HZ5.out.1.form
      obtain ⟨n5, hn5⟩ : ∃ n5, n5 = (X ++ coins [a, n, ms, mm]).length := ⟨_, rfl⟩
      rw [← hn5] at hv5
      have hxl : (X ++ coins [a, n, ms, mm]).length ≤ 27 + 63 * j + 36 := by rw [List.length_append]; have := HXX.out.1; omega
      clear hn5
      subst hv5
      cases has
      · go_wp2_with (at_builtin; refine app_any rfl (.tmp 92) (.tmp 93) rfl w6.heap.size _ (X ++ coins [a, n, ms, mm]) (coins [0]) (some ⟨wc.heap.size, 0, none⟩) 1 1 (wc.alloc (.cells #[.int .u8 0] 5)).heap.size rfl rfl (HZ5.out.1.kept ((Below.refl _ _).alloc (Nat.le_refl _) _)) (rd_zero wc) zero_len (fun h => by cases h) (by rw [← zero_len]; omega) (by have := HZ5.out.2.1.size; simp; omega) w6.heap.size w6 (HZ5.out.2.1.alloc HZ5.out.2.1.size _) (Nat.le_refl _) ?_; intro v8 wd O8 B8 _; have HZ8 := Lib.hid (And.intro O8 B8); clear O8 B8)
        have e : coins [no, tm, m] ++ ((tabOf cs).rows.take (j + 1)).flatMap rowB = (X ++ coins [a, n, ms, mm]) ++ coins [0] := by
          rw [HX.out.2.1, HXX.out.2, HX.out.1]
          simp [List.append_assoc]
        have HE := Lib.hid e
        clear e
        go_roundw
        case rel => exact ⟨j + 1, by omega, by go_num, ⟨by rw [HE.out]; exact HZ8.out.1, HZ8.out.2⟩⟩
        case measure => simp [intOf]; omega
      · have hv4 := HV4.out
        have hv5 := HV5.out
        clear hv1 hvia
        go_wp2_with (first
          | (go_at_call 20; (with_reducible refine (HC3.out _ wc.heap.size (heap_alloc_new _ _)).mono ?_); rintro e wd ⟨u4, rfl, O4, B4⟩; obtain ⟨A7, c7, hu4, hrd4, -, hn4⟩ := O4.form; obtain ⟨m7, hm7⟩ : ∃ m7, m7 = (coins [v1, mt, s]).length := ⟨_, rfl⟩; rw [← hm7] at hu4; subst hu4; have HZ6 := Lib.hid (And.intro (And.intro hrd4 (And.intro hm7 hn4)) (And.intro ((HZ5.out.1.kept ((Below.refl _ _).alloc (Nat.le_refl _) _)).kept B4) ((HZ5.out.2.1.alloc HZ5.out.2.1.size _).trans (B4.mono (by have := HZ5.out.2.1.size; simp; omega))))); clear O4 B4 hrd4 hm7 hn4)
          | (at_builtin; refine app_any rfl (.tmp 95) (.tmp 110) rfl w6.heap.size _ (X ++ coins [a, n, ms, mm]) (coins [v1, mt, s]) A7 m7 c7 wd.heap.size rfl rfl HZ6.out.2.1 HZ6.out.1.1 HZ6.out.1.2.1 HZ6.out.1.2.2 (by omega) HZ6.out.2.2.size w6.heap.size w6 HZ6.out.2.2 (Nat.le_refl _) ?_; intro v8 we O8 B8 _; have HZ8 := Lib.hid (And.intro O8 B8); clear O8 B8))
        have e : coins [no, tm, m] ++ ((tabOf cs).rows.take (j + 1)).flatMap rowB = (X ++ coins [a, n, ms, mm]) ++ coins [v1, mt, s] := by
          rw [HX.out.2.1, HXX.out.2, HX.out.1]
          simp [List.append_assoc]
        have HE := Lib.hid e
        clear e
        go_roundw
        case rel => exact ⟨j + 1, by omega, by go_num, ⟨by rw [HE.out]; exact HZ8.out.1, HZ8.out.2⟩⟩
        case measure => simp [intOf]; omega
    · obtain rfl : j = m := by omega
      obtain ⟨y, hy⟩ : ∃ y, y = (tabOf cs).enc := ⟨_, rfl⟩
      have hfull : coins [no, tm, j] ++ ((tabOf cs).rows.take j).flatMap rowB = y := by
        rw [List.take_of_length_le (by have := HB6.out.2.1; omega), hy, HB5.out.2.1, HB5.out.2.2, HB6.out.2.1]
        rfl
      have HR1 := HR.out
      rw [hfull] at HR1
      obtain ⟨A3, c3, hv3, hrd3, -, -⟩ := HR1.1.form
      have hm4y := HE1.out.2.1
      rw [← hy] at hm4y
      rw [← hm4y] at hv3
      have HOW := (HE1.out.1.kept (HB6.out.2.2.trans (HR1.2.mono HB6.out.2.2.size)))
      rw [← hy] at HOW
      have hdec := fun h => decode_enc A4 m4 c4 (tabOf cs) wr HE1.out.2.1 HTO.out.1 (by have := HB6.out.2.1; omega) h
      obtain ⟨A4', c4', hv4, hrd4, -, -⟩ := HOW.form
      rw [← hm4y] at hv4
      injection hv4 with hA4 _ hc4
      subst hA4 hc4
      have hdec2 := hdec (by rw [← hy]; exact hrd4)
      have HD := Lib.hid hdec2
      have HY := Lib.hid (And.intro hrd4 (And.intro hrd3 (And.intro hm4y (And.intro HOW (HB6.out.1.below HR1.2)))))
      have HBR := Lib.hid HR1.2
      have HEN : Hid (∀ W B q v, TabAt W B q (tabOf cs) v → Calls Try.prog 19 #[.pointer (some ⟨q, 0, none⟩)] W (CoinOwn W y)) := fun W B q v h => by
        rw [hy]
        exact encode_any W B q (tabOf cs) v h (fun r hr => (HTO.out.1.ok r hr).fits) HTO.out.1.no HTO.out.1.time (by have := HB6.out.2.1; omega)
      clear hy hfull HR1 hrd3 hrd4 hm4y HOW hdec hdec2 HR
      subst hv3
      go_upto_region 20 with (go_at_call 21; (with_reducible refine HD.out.mono ?_); rintro e w8 ⟨q2, v8, rfl, T8, B8⟩; have HT8 := Lib.hid (And.intro T8 B8); clear T8 B8)
      refine wp_region_noPanic ?_
      refine wp_region_held_drew (S := fun x : World => Below w8.heap.size w8 x) (by kernel_rfl) (Below.refl _ _).drew (fun hHeld => ?_)
      generalize w8.drew = wd at *
      refine wpAnyH_take (i := 0) (oi := { dst := some 117, op := Op.move (Operand.tmp 11), type := 56, pos := "law.go:151", after := #[], guard := none }) (v := .slice A4 m4 c4) rfl (by kernel_rfl) (by kernel_rfl) (by kernel_rfl) (fun _ _ _ h => h) (Or.inl ⟨by rfl, fun w hSw => by go_simp⟩) (by assumption) ?_
      try simp only [Act.put, List.setIfInBounds_toArray, List.set_cons_zero, List.set_cons_succ]
      refine wpAnyH_take (i := 1) (oi := { dst := some 118, op := Op.convert 56 9 (Operand.tmp 117), type := 9, pos := "law.go:151", after := #[{ on := 0, ground := Ground.data }], guard := none }) (v := .string (str y)) rfl (by kernel_rfl) (by kernel_rfl) (by kernel_rfl) (fun _ _ _ h => h) (Or.inl ⟨by rfl, fun w hSw => by have hc := conv_any ((HY.out.1.below HT8.out.2 (Nat.le_refl _)).below hSw HT8.out.2.size) m4 c4 HY.out.2.2.1; go_simp⟩) (by assumption) ?_
      try simp only [Act.put, List.setIfInBounds_toArray, List.set_cons_zero, List.set_cons_succ]
      refine wpAnyH_take (i := 2) (oi := { dst := some 119, op := Op.move (Operand.tmp 15), type := 56, pos := "law.go:151", after := #[], guard := none }) (v := .slice A3 m4 c3) rfl (by kernel_rfl) (by kernel_rfl) (by kernel_rfl) (fun _ _ _ h => h) (Or.inl ⟨by rfl, fun w hSw => by go_simp⟩) (by assumption) ?_
      try simp only [Act.put, List.setIfInBounds_toArray, List.set_cons_zero, List.set_cons_succ]
      refine wpAnyH_take (i := 3) (oi := { dst := some 120, op := Op.convert 56 9 (Operand.tmp 119), type := 9, pos := "law.go:151", after := #[{ on := 2, ground := Ground.data }], guard := none }) (v := .string (str y)) rfl (by kernel_rfl) (by kernel_rfl) (by kernel_rfl) (fun _ _ _ h => h) (Or.inl ⟨by rfl, fun w hSw => by have hc := conv_any ((HY.out.2.1.below HT8.out.2 (Nat.le_refl _)).below hSw HT8.out.2.size) m4 c3 HY.out.2.2.1; go_simp⟩) (by assumption) ?_
      try simp only [Act.put, List.setIfInBounds_toArray, List.set_cons_zero, List.set_cons_succ]
      refine wpAnyH_take (i := 4) (oi := { dst := some 121, op := Op.binOp BinOp.neq 9 (Operand.tmp 118) (Operand.tmp 120) 9, type := 4, pos := "law.go:151", after := #[{ on := 1, ground := Ground.data }, { on := 3, ground := Ground.data }], guard := none }) (v := .bool false) rfl (by kernel_rfl) (by kernel_rfl) (by kernel_rfl) (fun _ _ _ h => h) (Or.inl ⟨by rfl, fun w hSw => by go_simp⟩) (by assumption) ?_
      try simp only [Act.put, List.setIfInBounds_toArray, List.set_cons_zero, List.set_cons_succ]
      refine wpAnyH_take (i := 5) (oi := { dst := some 122, op := Op.move (Operand.tmp 121), type := 4, pos := "law.go:151", after := #[{ on := 4, ground := Ground.data }], guard := none }) (v := .bool false) rfl (by kernel_rfl) (by kernel_rfl) (by kernel_rfl) (fun _ _ _ h => h) (Or.inl ⟨by rfl, fun w hSw => by go_simp⟩) (by assumption) ?_
      try simp only [Act.put, List.setIfInBounds_toArray, List.set_cons_zero, List.set_cons_succ]
      refine wpAnyH_take (i := 6) (oi := { dst := some 123, op := Op.move (Operand.tmp 19), type := 59, pos := "law.go:151", after := #[{ on := 5, ground := Ground.guard }], guard := some (5, false) }) (v := .int .i64 0) rfl (by kernel_rfl) (by kernel_rfl) (by kernel_rfl) (fun _ _ _ h => h) (Or.inl ⟨by rfl, fun w hSw => by go_simp⟩) (by assumption) ?_
      try simp only [Act.put, List.setIfInBounds_toArray, List.set_cons_zero, List.set_cons_succ]
      refine wpAnyH_take (i := 7) (oi := { dst := some 124, op := Op.binOp BinOp.neq 59 (Operand.tmp 123) (Operand.const (Value.int IntKind.i64 0)) 59, type := 4, pos := "law.go:151", after := #[{ on := 6, ground := Ground.data }, { on := 5, ground := Ground.guard }], guard := some (5, false) }) (v := .bool false) rfl (by kernel_rfl) (by kernel_rfl) (by kernel_rfl) (fun _ _ _ h => h) (Or.inl ⟨by rfl, fun w hSw => by go_simp⟩) (by assumption) ?_
      try simp only [Act.put, List.setIfInBounds_toArray, List.set_cons_zero, List.set_cons_succ]
      refine wpAnyH_take (i := 8) (oi := { dst := some 125, op := Op.pick (Operand.tmp 122) (Operand.const (Value.bool true)) (Operand.tmp 124), type := 4, pos := "law.go:151", after := #[{ on := 5, ground := Ground.data }, { on := 7, ground := Ground.data }], guard := none }) (v := .bool false) rfl (by kernel_rfl) (by kernel_rfl) (by kernel_rfl) (fun _ _ _ h => h) (Or.inl ⟨by rfl, fun w hSw => by go_simp⟩) (by assumption) ?_
      try simp only [Act.put, List.setIfInBounds_toArray, List.set_cons_zero, List.set_cons_succ]
      refine wpAnyH_take (i := 9) (oi := { dst := some 126, op := Op.move (Operand.tmp 125), type := 4, pos := "law.go:151", after := #[{ on := 8, ground := Ground.data }, { on := 5, ground := Ground.chain }], guard := none }) (v := .bool false) rfl (by kernel_rfl) (by kernel_rfl) (by kernel_rfl) (fun _ _ _ h => h) (Or.inl ⟨by rfl, fun w hSw => by go_simp⟩) (by assumption) ?_
      try simp only [Act.put, List.setIfInBounds_toArray, List.set_cons_zero, List.set_cons_succ]
      refine wpAnyH_take (i := 10) (oi := { dst := some 127, op := Op.move (Operand.tmp 18), type := 26, pos := "law.go:151", after := #[{ on := 9, ground := Ground.guard }], guard := some (9, false) }) (v := .pointer (some ⟨q2, 0, none⟩)) rfl (by kernel_rfl) (by kernel_rfl) (by kernel_rfl) (fun _ _ _ h => h) (Or.inl ⟨by rfl, fun w hSw => by go_simp⟩) (by assumption) ?_
      try simp only [Act.put, List.setIfInBounds_toArray, List.set_cons_zero, List.set_cons_succ]
      refine wpAnyH_take (i := 13) (oi := { dst := some 130, op := Op.move (Operand.tmp 11), type := 56, pos := "law.go:151", after := #[{ on := 9, ground := Ground.guard }], guard := some (9, false) }) (v := .slice A4 m4 c4) rfl (by kernel_rfl) (by kernel_rfl) (by kernel_rfl) (fun _ _ _ h => h) (Or.inl ⟨by rfl, fun w hSw => by go_simp⟩) (by assumption) ?_
      try simp only [Act.put, List.setIfInBounds_toArray, List.set_cons_zero, List.set_cons_succ]
      refine wpAnyH_take (i := 14) (oi := { dst := some 131, op := Op.convert 56 9 (Operand.tmp 130), type := 9, pos := "law.go:151", after := #[{ on := 13, ground := Ground.data }, { on := 9, ground := Ground.guard }], guard := some (9, false) }) (v := .string (str y)) rfl (by kernel_rfl) (by kernel_rfl) (by kernel_rfl) (fun _ _ _ h => h) (Or.inl ⟨by rfl, fun w hSw => by have hc := conv_any ((HY.out.1.below HT8.out.2 (Nat.le_refl _)).below hSw HT8.out.2.size) m4 c4 HY.out.2.2.1; go_simp⟩) (by assumption) ?_
      try simp only [Act.put, List.setIfInBounds_toArray, List.set_cons_zero, List.set_cons_succ]
      refine wpAnyH_ready (rs := [11]) (by kernel_rfl) (by simp) ?_
      refine AllReadyH.cons (o := { dst := some 128, op := Op.call { callee := Callee.value (Operand.func 19), args := #[Operand.tmp 127], argTypes := #[26] }, type := 56, pos := "law.go:151", after := #[{ on := 10, ground := Ground.data }, { on := 9, ground := Ground.chain }, { on := 9, ground := Ground.guard }], guard := some (9, false) }) rfl (fun K hK => ?_) AllReadyH.nil
      go_simp
      with_reducible refine (HEN.out _ _ _ _ (HT8.out.1.kept hHeld)).mono ?_
      rintro e w9 ⟨u9, rfl, O9, B9⟩
      obtain ⟨A9, c9, hu9, hrd9, -, -⟩ := O9.form
      obtain ⟨m9, hm9⟩ : ∃ m, m = y.length := ⟨_, rfl⟩
      rw [← hm9] at hu9
      subst hu9
      have HC9 := Lib.hid (And.intro hrd9 hm9)
      refine hK.out _ _ (hHeld.trans (B9.mono hHeld.size)) (fun hHeld => ?_)
      clear hK K
      try simp only [Act.put, List.setIfInBounds_toArray, List.set_cons_zero, List.set_cons_succ]
      clear O9 B9 hrd9 hm9
      refine wpAnyH_ready (rs := [12]) (by kernel_rfl) (by simp) ?_
      refine AllReadyH.cons (o := { dst := some 129, op := Op.convert 56 9 (Operand.tmp 128), type := 9, pos := "law.go:151", after := #[{ on := 11, ground := Ground.data }, { on := 9, ground := Ground.guard }], guard := some (9, false) }) rfl (fun K hK => ?_) AllReadyH.nil
      have hc := conv_any HC9.out.1 m9 c9 HC9.out.2
      go_simp
      refine hK.out _ _ (hHeld) (fun hHeld => ?_)
      clear hK K
      try simp only [Act.put, List.setIfInBounds_toArray, List.set_cons_zero, List.set_cons_succ]
      clear hc
      refine wpAnyH_take (i := 15) (oi := { dst := some 132, op := Op.binOp BinOp.neq 9 (Operand.tmp 129) (Operand.tmp 131) 9, type := 4, pos := "law.go:151", after := #[{ on := 12, ground := Ground.data }, { on := 14, ground := Ground.data }, { on := 9, ground := Ground.guard }], guard := some (9, false) }) (v := .bool false) rfl (by kernel_rfl) (by kernel_rfl) (by kernel_rfl) (fun _ _ _ h => h) (Or.inl ⟨by rfl, fun w hSw => by go_simp⟩) (by assumption) ?_
      try simp only [Act.put, List.setIfInBounds_toArray, List.set_cons_zero, List.set_cons_succ]
      refine wpAnyH_take (i := 16) (oi := { dst := some 133, op := Op.pick (Operand.tmp 126) (Operand.const (Value.bool true)) (Operand.tmp 132), type := 4, pos := "law.go:151", after := #[{ on := 9, ground := Ground.data }, { on := 15, ground := Ground.data }], guard := none }) (v := .bool false) rfl (by kernel_rfl) (by kernel_rfl) (by kernel_rfl) (fun _ _ _ h => h) (Or.inl ⟨by rfl, fun w hSw => by go_simp⟩) (by assumption) ?_
      try simp only [Act.put, List.setIfInBounds_toArray, List.set_cons_zero, List.set_cons_succ]
      refine wpAnyH_take (i := 17) (oi := { dst := some 134, op := Op.move (Operand.tmp 133), type := 4, pos := "law.go:151", after := #[{ on := 16, ground := Ground.data }, { on := 11, ground := Ground.chain }], guard := none }) (v := .bool false) rfl (by kernel_rfl) (by kernel_rfl) (by kernel_rfl) (fun _ _ _ h => h) (Or.inl ⟨by rfl, fun w hSw => by go_simp⟩) (by assumption) ?_
      try simp only [Act.put, List.setIfInBounds_toArray, List.set_cons_zero, List.set_cons_succ]
      refine wpAnyH_take (i := 18) (oi := { dst := some 135, op := Op.move (Operand.tmp 18), type := 26, pos := "law.go:151", after := #[{ on := 17, ground := Ground.guard }], guard := some (17, false) }) (v := .pointer (some ⟨q2, 0, none⟩)) rfl (by kernel_rfl) (by kernel_rfl) (by kernel_rfl) (fun _ _ _ h => h) (Or.inl ⟨by rfl, fun w hSw => by go_simp⟩) (by assumption) ?_
      try simp only [Act.put, List.setIfInBounds_toArray, List.set_cons_zero, List.set_cons_succ]
      refine wpAnyH_take (i := 20) (oi := { dst := some 137, op := Op.move (Operand.tmp 14), type := 48, pos := "law.go:151", after := #[{ on := 17, ground := Ground.guard }], guard := some (17, false) }) (v := .slice A6 j c6) rfl (by kernel_rfl) (by kernel_rfl) (by kernel_rfl) (fun _ _ _ h => h) (Or.inl ⟨by rfl, fun w hSw => by go_simp⟩) (by assumption) ?_
      try simp only [Act.put, List.setIfInBounds_toArray, List.set_cons_zero, List.set_cons_succ]
      refine wpAnyH_ready (rs := [19]) (by kernel_rfl) (by simp) ?_
      refine AllReadyH.cons (o := { dst := some 136, op := Op.call { callee := Callee.value (Operand.func 14), args := #[Operand.tmp 135], argTypes := #[26] }, type := 48, pos := "law.go:151", after := #[{ on := 18, ground := Ground.data }, { on := 17, ground := Ground.chain }, { on := 17, ground := Ground.guard }], guard := some (17, false) }) rfl (fun K hK => ?_) AllReadyH.nil
      go_simp
      with_reducible refine (rows_any _ _ q2 (tabOf cs) v8 (HT8.out.1.kept hHeld) (by have := HB6.out.2.1; omega)).mono ?_
      rintro e w10 ⟨v10, rfl, O10, B10⟩
      obtain ⟨A10, c10, hv10, hs10, -⟩ := O10.form
      rw [← HB6.out.2.1] at hv10
      subst hv10
      have HS10 := Lib.hid hs10
      refine hK.out _ _ (hHeld.trans (B10.mono hHeld.size)) (fun hHeld => ?_)
      clear hK K
      try simp only [Act.put, List.setIfInBounds_toArray, List.set_cons_zero, List.set_cons_succ]
      clear O10 B10 hs10
      refine wpAnyH_ready (rs := [21]) (by kernel_rfl) (by simp) ?_
      refine AllReadyH.cons (o := { dst := some 138, op := Op.call { callee := Callee.value (Operand.func 13), args := #[Operand.tmp 136, Operand.tmp 137], argTypes := #[48, 48] }, type := 4, pos := "law.go:151", after := #[{ on := 19, ground := Ground.data }, { on := 20, ground := Ground.data }, { on := 19, ground := Ground.chain }, { on := 17, ground := Ground.guard }], guard := some (17, false) }) rfl (fun K hK => ?_) AllReadyH.nil
      go_simp
      with_reducible refine (same_rows _ A10 A6 j c10 c6 (tabOf cs).rows HB6.out.2.1 (by omega) HS10.out ((HY.out.2.2.2.2.below HT8.out.2).below hHeld)).mono ?_
      rintro e w11 ⟨rfl, B11⟩
      refine hK.out _ _ (hHeld.trans (B11.mono hHeld.size)) (fun hHeld => ?_)
      clear hK K
      try simp only [Act.put, List.setIfInBounds_toArray, List.set_cons_zero, List.set_cons_succ]
      clear B11
      refine wpAnyH_take (i := 22) (oi := { dst := some 139, op := Op.unOp UnOp.not 4 (Operand.tmp 138), type := 4, pos := "law.go:151", after := #[{ on := 21, ground := Ground.data }, { on := 17, ground := Ground.guard }], guard := some (17, false) }) (v := .bool false) rfl (by kernel_rfl) (by kernel_rfl) (by kernel_rfl) (fun _ _ _ h => h) (Or.inl ⟨by rfl, fun w hSw => by go_simp⟩) (by assumption) ?_
      try simp only [Act.put, List.setIfInBounds_toArray, List.set_cons_zero, List.set_cons_succ]
      refine wpAnyH_take (i := 23) (oi := { dst := some 140, op := Op.pick (Operand.tmp 134) (Operand.const (Value.bool true)) (Operand.tmp 139), type := 4, pos := "law.go:151", after := #[{ on := 17, ground := Ground.data }, { on := 22, ground := Ground.data }], guard := none }) (v := .bool false) rfl (by kernel_rfl) (by kernel_rfl) (by kernel_rfl) (fun _ _ _ h => h) (Or.inl ⟨by rfl, fun w hSw => by go_simp⟩) (by assumption) ?_
      try simp only [Act.put, List.setIfInBounds_toArray, List.set_cons_zero, List.set_cons_succ]
      refine wpAnyH_done (by kernel_rfl) ?_ _
      try unfold NoPanic
      have HOWN := HY.out.2.2.2.1.kept (HT8.out.2.trans (hHeld.mono HT8.out.2.size))
      have HW11 := HE1.out.2.2.2.trans ((HB6.out.2.2.trans ((HBR.out.trans ((HT8.out.2.trans (hHeld.mono HT8.out.2.size)).mono HBR.out.size)).mono HB6.out.2.2.size)).mono HE1.out.2.2.2.size)
      have HPW := HP.out.2.1.below HW11 (Nat.le_refl _)
      have hpos : 0 < m4 := by rw [HE1.out.2.1]; exact enc_pos _
      obtain ⟨g, hA4, hgB, hgl, hm4c, hixs⟩ := turn_row HOWN HY.out.2.2.1 hpos
      subst hA4
      have hgw : w.heap.size ≤ g := Nat.le_trans HT1.out.2.2.size hgB
      have hm4l : m4 ≤ 27 + 63 * 40 := by
        rw [HE1.out.2.1]
        unfold T.enc
        have h1 := rows_len (tabOf cs).rows
        have h2 := coins_len [(tabOf cs).no, (tabOf cs).time, (tabOf cs).rows.length]
        have h3 := HB6.out.2.1
        simp only [List.length_append, List.length_cons, List.length_nil] at *
        omega
      obtain ⟨a2', rfl⟩ : ∃ n : Nat, a2 = n := ⟨a2.toNat, by omega⟩
      obtain ⟨t3, rfl⟩ : ∃ n : Nat, a3 = n := ⟨a3.toNat, by omega⟩
      obtain ⟨ix, hix1, hix2⟩ := rem_nat a2' m4 (by omega) hpos
      obtain ⟨x8, hx8, hcell, hfz, hnew⟩ := hixs ix hix1
      obtain ⟨z8, hz8, hxor⟩ := xor8 x8 t3 hx8 (by omega)
      obtain ⟨y', hy'1, hy'2⟩ := hnew z8 hz8
      have hset : Below w.heap.size w (w11.setCell ⟨g, ix, none⟩ (.int .u8 (z8 : Int))) := HW11.setCell (show w.heap.size ≤ (⟨g, ix, none⟩ : Addr).block from hgw) _
      have hsz : (w11.setCell ⟨g, ix, none⟩ (.int .u8 (z8 : Int))).heap.size = w11.heap.size := by simp
      have HPW2 := HP.out.2.1.below hset (Nat.le_refl _)
      have HLAST : Hid (Below w.heap.size w (w11.setCell ⟨g, ix, none⟩ (.int .u8 (z8 : Int))) ∧ Rd (w11.setCell ⟨g, ix, none⟩ (.int .u8 (z8 : Int))) (w11.setCell ⟨g, ix, none⟩ (.int .u8 (z8 : Int))).heap.size a1 p ∧ Rd (w11.setCell ⟨g, ix, none⟩ (.int .u8 (z8 : Int))) (w11.setCell ⟨g, ix, none⟩ (.int .u8 (z8 : Int))).heap.size (some ⟨g, 0, none⟩) y') := ⟨hset, HPW2.more (by rw [hsz]; exact HW11.size), hy'2.more (by rw [hsz]; omega)⟩
      have HYL := Lib.hid hy'1
      clear hset HPW2 HPW hixs hnew hy'1 hy'2 HOWN HW11
      go_upto_region 22 with (fail)
      have HRY := Lib.hid (And.intro HLAST.out.1 hgl)
      go_upto_region 23 with (fail)
      generalize w11.setCell ⟨g, ix, none⟩ (.int .u8 (z8 : Int)) = ws at *
      have HLW : Hid (Below w.heap.size w (ws.alloc (.cells #[.slice a1 len1 cap1, .slice (some ⟨g, 0, none⟩) m4 c4] 56)) ∧ Rd (ws.alloc (.cells #[.slice a1 len1 cap1, .slice (some ⟨g, 0, none⟩) m4 c4] 56)) (ws.alloc (.cells #[.slice a1 len1 cap1, .slice (some ⟨g, 0, none⟩) m4 c4] 56)).heap.size a1 p ∧ Rd (ws.alloc (.cells #[.slice a1 len1 cap1, .slice (some ⟨g, 0, none⟩) m4 c4] 56)) (ws.alloc (.cells #[.slice a1 len1 cap1, .slice (some ⟨g, 0, none⟩) m4 c4] 56)).heap.size (some ⟨g, 0, none⟩) y' ∧ (ws.alloc (.cells #[.slice a1 len1 cap1, .slice (some ⟨g, 0, none⟩) m4 c4] 56)).heap[ws.heap.size]? = some (.cells #[.slice a1 len1 cap1, .slice (some ⟨g, 0, none⟩) m4 c4] 56) ∧ ws.heap.size < (ws.alloc (.cells #[.slice a1 len1 cap1, .slice (some ⟨g, 0, none⟩) m4 c4] 56)).heap.size) := by
        have hb : Below ws.heap.size ws (ws.alloc (.cells #[.slice a1 len1 cap1, .slice (some ⟨g, 0, none⟩) m4 c4] 56)) := (Below.refl _ _).alloc (Nat.le_refl _) _
        exact ⟨HLAST.out.1.alloc HLAST.out.1.size _, (HLAST.out.2.1.below hb (Nat.le_refl _)).more hb.size, (HLAST.out.2.2.below hb (Nat.le_refl _)).more hb.size, heap_alloc_new ws _, by simp⟩
      have hyl : y'.length ≤ 3000 := by have := HYL.out; omega
      have hpl : p.length ≤ 3000 := by have := HP.out.1; omega
      have HYL' := Lib.hid HYL.out.symm
      obtain ⟨wo, hwo⟩ : ∃ x : World, x = wr := ⟨_, rfl⟩
      subst hwo
      have HYA := Lib.hid hyl
      have HPA := Lib.hid hpl
      clear HLAST HRY hcell hfz hsz hxor HD HY HBR HT8 HB6 HT1 hHeld hix2 hyl hpl
      go_wp2_with fail
      generalize ws.alloc _ = wl at *
      go_loopw [156] (fun i wq => (i = .int .i64 0 ∨ i = .int .i64 1 ∨ i = .int .i64 2) ∧ Hid (Below wl.heap.size wl wq)) (fun i _ => 2 - (intOf i).toNat)
      case atStart => exact ⟨Or.inl rfl, Below.refl _ _⟩
      case round =>
        obtain ⟨hi, HR⟩ := hrel
        rcases hi with rfl | rfl | rfl
        · have k0 : wr.cell? ⟨ws.heap.size, 0, none⟩ = some (.slice a1 len1 cap1) := (cell_of_row wr _ 0 _ 56 (0, 0) ((HR.out.block _ HLW.out.2.2.2.2).trans HLW.out.2.2.2.1)).trans rfl
          go_upto_region 27 with (go_at_call 21; (with_reducible refine (decode_bytes a1 len1 cap1 p _ HP.out.1 (by have := HYA.out; have := HPA.out; omega) (HLW.out.2.1.below HR.out (Nat.le_refl _) |>.more HR.out.size)).mono ?_); rintro e wx HDD; obtain ⟨pv, er, rfl, HC⟩ := dec_case HDD; clear HDD)
          have HQ := Lib.hid (And.intro (((HLW.out.2.1.below HR.out (Nat.le_refl _)).more HR.out.size).below HC.out.1 (Nat.le_refl _) |>.more HC.out.1.size) (HP.out.1))
          have HR2 := Lib.hid (HR.out.trans (HC.out.1.mono HR.out.size))
          rcases HC.out.2 with ⟨hne, rfl⟩ | ⟨t9, q9, v9, rfl, rfl, T9, e9, f9, n9, m9', l9⟩
          · have hne' : ¬ (er : Int) = 0 := by omega
            refine wp_region_noPanic ?_
            refine wp_region_held_drew (S := fun x : World => Below wx.heap.size wx x) (by kernel_rfl) (Below.refl _ _).drew (fun hHeld => ?_)
            generalize wx.drew = wd at *
            refine wpAnyH_take (i := 0) (oi := { dst := some 165, op := Op.move (Operand.tmp 23), type := 59, pos := "law.go:157", after := #[], guard := none }) (v := .int .i64 (er : Int)) rfl (by kernel_rfl) (by kernel_rfl) (by kernel_rfl) (fun _ _ _ h => h) (Or.inl ⟨by rfl, fun w hSw => by go_simp⟩) (by assumption) ?_
            try simp only [Act.put, List.setIfInBounds_toArray, List.set_cons_zero, List.set_cons_succ]
            refine wpAnyH_take (i := 1) (oi := { dst := some 166, op := Op.binOp BinOp.eql 59 (Operand.tmp 165) (Operand.const (Value.int IntKind.i64 0)) 59, type := 4, pos := "law.go:157", after := #[{ on := 0, ground := Ground.data }], guard := none }) (v := .bool false) rfl (by kernel_rfl) (by kernel_rfl) (by kernel_rfl) (fun _ _ _ h => h) (Or.inl ⟨by rfl, fun w hSw => by go_simp⟩) (by assumption) ?_
            try simp only [Act.put, List.setIfInBounds_toArray, List.set_cons_zero, List.set_cons_succ]
            refine wpAnyH_take (i := 2) (oi := { dst := some 167, op := Op.move (Operand.tmp 166), type := 4, pos := "law.go:157", after := #[{ on := 1, ground := Ground.data }], guard := none }) (v := .bool false) rfl (by kernel_rfl) (by kernel_rfl) (by kernel_rfl) (fun _ _ _ h => h) (Or.inl ⟨by rfl, fun w hSw => by go_simp⟩) (by assumption) ?_
            try simp only [Act.put, List.setIfInBounds_toArray, List.set_cons_zero, List.set_cons_succ]
            refine wpAnyH_take (i := 3) (oi := { dst := some 168, op := Op.move (Operand.tmp 22), type := 26, pos := "law.go:157", after := #[{ on := 2, ground := Ground.guard }], guard := some (2, true) }) (v := undef) rfl (by kernel_rfl) (by kernel_rfl) (by kernel_rfl) (fun _ _ _ h => h) (Or.inr ⟨by rfl, rfl⟩) (by assumption) ?_
            try simp only [Act.put, List.setIfInBounds_toArray, List.set_cons_zero, List.set_cons_succ]
            refine wpAnyH_take (i := 4) (oi := { dst := some 169, op := Op.call { callee := Callee.value (Operand.func 19), args := #[Operand.tmp 168], argTypes := #[26] }, type := 56, pos := "law.go:157", after := #[{ on := 3, ground := Ground.data }, { on := 2, ground := Ground.chain }, { on := 2, ground := Ground.guard }], guard := some (2, true) }) (v := undef) rfl (by kernel_rfl) (by kernel_rfl) (by kernel_rfl) (fun _ _ _ h => h) (Or.inr ⟨by rfl, rfl⟩) (by assumption) ?_
            try simp only [Act.put, List.setIfInBounds_toArray, List.set_cons_zero, List.set_cons_succ]
            refine wpAnyH_take (i := 5) (oi := { dst := some 170, op := Op.convert 56 9 (Operand.tmp 169), type := 9, pos := "law.go:157", after := #[{ on := 4, ground := Ground.data }, { on := 2, ground := Ground.guard }], guard := some (2, true) }) (v := undef) rfl (by kernel_rfl) (by kernel_rfl) (by kernel_rfl) (fun _ _ _ h => h) (Or.inr ⟨by rfl, rfl⟩) (by assumption) ?_
            try simp only [Act.put, List.setIfInBounds_toArray, List.set_cons_zero, List.set_cons_succ]
            refine wpAnyH_take (i := 6) (oi := { dst := some 171, op := Op.move (Operand.tmp 21), type := 56, pos := "law.go:157", after := #[{ on := 2, ground := Ground.guard }], guard := some (2, true) }) (v := undef) rfl (by kernel_rfl) (by kernel_rfl) (by kernel_rfl) (fun _ _ _ h => h) (Or.inr ⟨by rfl, rfl⟩) (by assumption) ?_
            try simp only [Act.put, List.setIfInBounds_toArray, List.set_cons_zero, List.set_cons_succ]
            refine wpAnyH_take (i := 7) (oi := { dst := some 172, op := Op.convert 56 9 (Operand.tmp 171), type := 9, pos := "law.go:157", after := #[{ on := 6, ground := Ground.data }, { on := 2, ground := Ground.guard }], guard := some (2, true) }) (v := undef) rfl (by kernel_rfl) (by kernel_rfl) (by kernel_rfl) (fun _ _ _ h => h) (Or.inr ⟨by rfl, rfl⟩) (by assumption) ?_
            try simp only [Act.put, List.setIfInBounds_toArray, List.set_cons_zero, List.set_cons_succ]
            refine wpAnyH_take (i := 8) (oi := { dst := some 173, op := Op.binOp BinOp.neq 9 (Operand.tmp 170) (Operand.tmp 172) 9, type := 4, pos := "law.go:157", after := #[{ on := 5, ground := Ground.data }, { on := 7, ground := Ground.data }, { on := 2, ground := Ground.guard }], guard := some (2, true) }) (v := undef) rfl (by kernel_rfl) (by kernel_rfl) (by kernel_rfl) (fun _ _ _ h => h) (Or.inr ⟨by rfl, rfl⟩) (by assumption) ?_
            try simp only [Act.put, List.setIfInBounds_toArray, List.set_cons_zero, List.set_cons_succ]
            refine wpAnyH_take (i := 9) (oi := { dst := some 174, op := Op.pick (Operand.tmp 167) (Operand.tmp 173) (Operand.const (Value.bool false)), type := 4, pos := "law.go:157", after := #[{ on := 2, ground := Ground.data }, { on := 8, ground := Ground.data }], guard := none }) (v := .bool false) rfl (by kernel_rfl) (by kernel_rfl) (by kernel_rfl) (fun _ _ _ h => h) (Or.inl ⟨by rfl, fun w hSw => by go_simp⟩) (by assumption) ?_
            try simp only [Act.put, List.setIfInBounds_toArray, List.set_cons_zero, List.set_cons_succ]
            refine wpAnyH_take (i := 10) (oi := { dst := some 175, op := Op.move (Operand.tmp 174), type := 4, pos := "law.go:157", after := #[{ on := 9, ground := Ground.data }, { on := 4, ground := Ground.chain }], guard := none }) (v := .bool false) rfl (by kernel_rfl) (by kernel_rfl) (by kernel_rfl) (fun _ _ _ h => h) (Or.inl ⟨by rfl, fun w hSw => by go_simp⟩) (by assumption) ?_
            try simp only [Act.put, List.setIfInBounds_toArray, List.set_cons_zero, List.set_cons_succ]
            refine wpAnyH_take (i := 11) (oi := { dst := some 176, op := Op.move (Operand.tmp 23), type := 59, pos := "law.go:157", after := #[{ on := 10, ground := Ground.guard }], guard := some (10, false) }) (v := .int .i64 (er : Int)) rfl (by kernel_rfl) (by kernel_rfl) (by kernel_rfl) (fun _ _ _ h => h) (Or.inl ⟨by rfl, fun w hSw => by go_simp⟩) (by assumption) ?_
            try simp only [Act.put, List.setIfInBounds_toArray, List.set_cons_zero, List.set_cons_succ]
            refine wpAnyH_take (i := 12) (oi := { dst := some 177, op := Op.binOp BinOp.neq 59 (Operand.tmp 176) (Operand.const (Value.int IntKind.i64 0)) 59, type := 4, pos := "law.go:157", after := #[{ on := 11, ground := Ground.data }, { on := 10, ground := Ground.guard }], guard := some (10, false) }) (v := .bool true) rfl (by kernel_rfl) (by kernel_rfl) (by kernel_rfl) (fun _ _ _ h => h) (Or.inl ⟨by rfl, fun w hSw => by go_simp⟩) (by assumption) ?_
            try simp only [Act.put, List.setIfInBounds_toArray, List.set_cons_zero, List.set_cons_succ]
            refine wpAnyH_take (i := 13) (oi := { dst := some 178, op := Op.move (Operand.tmp 177), type := 4, pos := "law.go:157", after := #[{ on := 12, ground := Ground.data }, { on := 10, ground := Ground.chain }, { on := 10, ground := Ground.guard }], guard := some (10, false) }) (v := .bool true) rfl (by kernel_rfl) (by kernel_rfl) (by kernel_rfl) (fun _ _ _ h => h) (Or.inl ⟨by rfl, fun w hSw => by go_simp⟩) (by assumption) ?_
            try simp only [Act.put, List.setIfInBounds_toArray, List.set_cons_zero, List.set_cons_succ]
            refine wpAnyH_take (i := 14) (oi := { dst := some 179, op := Op.move (Operand.tmp 22), type := 26, pos := "law.go:157", after := #[{ on := 13, ground := Ground.guard }], guard := some (13, true) }) (v := .pointer none) rfl (by kernel_rfl) (by kernel_rfl) (by kernel_rfl) (fun _ _ _ h => h) (Or.inl ⟨by rfl, fun w hSw => by go_simp⟩) (by assumption) ?_
            try simp only [Act.put, List.setIfInBounds_toArray, List.set_cons_zero, List.set_cons_succ]
            refine wpAnyH_take (i := 15) (oi := { dst := some 180, op := Op.binOp BinOp.neq 26 (Operand.tmp 179) (Operand.const (Value.pointer none)) 26, type := 4, pos := "law.go:157", after := #[{ on := 14, ground := Ground.data }, { on := 13, ground := Ground.guard }], guard := some (13, true) }) (v := .bool false) rfl (by kernel_rfl) (by kernel_rfl) (by kernel_rfl) (fun _ _ _ h => h) (Or.inl ⟨by rfl, fun w hSw => by go_simp⟩) (by assumption) ?_
            try simp only [Act.put, List.setIfInBounds_toArray, List.set_cons_zero, List.set_cons_succ]
            refine wpAnyH_take (i := 16) (oi := { dst := some 181, op := Op.pick (Operand.tmp 178) (Operand.tmp 180) (Operand.const (Value.bool false)), type := 4, pos := "law.go:157", after := #[{ on := 13, ground := Ground.data }, { on := 15, ground := Ground.data }, { on := 10, ground := Ground.guard }], guard := some (10, false) }) (v := .bool false) rfl (by kernel_rfl) (by kernel_rfl) (by kernel_rfl) (fun _ _ _ h => h) (Or.inl ⟨by rfl, fun w hSw => by go_simp⟩) (by assumption) ?_
            try simp only [Act.put, List.setIfInBounds_toArray, List.set_cons_zero, List.set_cons_succ]
            refine wpAnyH_take (i := 17) (oi := { dst := some 182, op := Op.pick (Operand.tmp 175) (Operand.const (Value.bool true)) (Operand.tmp 181), type := 4, pos := "law.go:157", after := #[{ on := 10, ground := Ground.data }, { on := 16, ground := Ground.data }], guard := none }) (v := .bool false) rfl (by kernel_rfl) (by kernel_rfl) (by kernel_rfl) (fun _ _ _ h => h) (Or.inl ⟨by rfl, fun w hSw => by go_simp⟩) (by assumption) ?_
            try simp only [Act.put, List.setIfInBounds_toArray, List.set_cons_zero, List.set_cons_succ]
            refine wpAnyH_done (by kernel_rfl) ?_ _
            try unfold NoPanic
            go_wp2
            go_roundw
            case rel => exact ⟨Or.inr (Or.inl rfl), HR2.out.trans (hHeld.mono HR2.out.size)⟩
            case measure => simp [intOf]
          · have HT9 := Lib.hid (And.intro T9 (And.intro e9 (And.intro f9 (And.intro n9 (And.intro m9' (show t9.rows.length ≤ 1000 by have h5 := enc_five e9; have := HYA.out; have := HPA.out; omega))))))
            clear T9 e9 f9 n9 m9' l9 HC
            refine wp_region_noPanic ?_
            refine wp_region_held_drew (S := fun x : World => Below wx.heap.size wx x) (by kernel_rfl) (Below.refl _ _).drew (fun hHeld => ?_)
            generalize wx.drew = wd at *
            refine wpAnyH_take (i := 0) (oi := { dst := some 165, op := Op.move (Operand.tmp 23), type := 59, pos := "law.go:157", after := #[], guard := none }) (v := .int .i64 0) rfl (by kernel_rfl) (by kernel_rfl) (by kernel_rfl) (fun _ _ _ h => h) (Or.inl ⟨by rfl, fun w hSw => by go_simp⟩) (by assumption) ?_
            try simp only [Act.put, List.setIfInBounds_toArray, List.set_cons_zero, List.set_cons_succ]
            refine wpAnyH_take (i := 1) (oi := { dst := some 166, op := Op.binOp BinOp.eql 59 (Operand.tmp 165) (Operand.const (Value.int IntKind.i64 0)) 59, type := 4, pos := "law.go:157", after := #[{ on := 0, ground := Ground.data }], guard := none }) (v := .bool true) rfl (by kernel_rfl) (by kernel_rfl) (by kernel_rfl) (fun _ _ _ h => h) (Or.inl ⟨by rfl, fun w hSw => by go_simp⟩) (by assumption) ?_
            try simp only [Act.put, List.setIfInBounds_toArray, List.set_cons_zero, List.set_cons_succ]
            refine wpAnyH_take (i := 2) (oi := { dst := some 167, op := Op.move (Operand.tmp 166), type := 4, pos := "law.go:157", after := #[{ on := 1, ground := Ground.data }], guard := none }) (v := .bool true) rfl (by kernel_rfl) (by kernel_rfl) (by kernel_rfl) (fun _ _ _ h => h) (Or.inl ⟨by rfl, fun w hSw => by go_simp⟩) (by assumption) ?_
            try simp only [Act.put, List.setIfInBounds_toArray, List.set_cons_zero, List.set_cons_succ]
            refine wpAnyH_take (i := 3) (oi := { dst := some 168, op := Op.move (Operand.tmp 22), type := 26, pos := "law.go:157", after := #[{ on := 2, ground := Ground.guard }], guard := some (2, true) }) (v := .pointer (some ⟨q9, 0, none⟩)) rfl (by kernel_rfl) (by kernel_rfl) (by kernel_rfl) (fun _ _ _ h => h) (Or.inl ⟨by rfl, fun w hSw => by go_simp⟩) (by assumption) ?_
            try simp only [Act.put, List.setIfInBounds_toArray, List.set_cons_zero, List.set_cons_succ]
            refine wpAnyH_take (i := 6) (oi := { dst := some 171, op := Op.move (Operand.tmp 21), type := 56, pos := "law.go:157", after := #[{ on := 2, ground := Ground.guard }], guard := some (2, true) }) (v := .slice a1 len1 cap1) rfl (by kernel_rfl) (by kernel_rfl) (by kernel_rfl) (fun _ _ _ h => h) (Or.inl ⟨by rfl, fun w hSw => by go_simp⟩) (by assumption) ?_
            try simp only [Act.put, List.setIfInBounds_toArray, List.set_cons_zero, List.set_cons_succ]
            refine wpAnyH_take (i := 7) (oi := { dst := some 172, op := Op.convert 56 9 (Operand.tmp 171), type := 9, pos := "law.go:157", after := #[{ on := 6, ground := Ground.data }, { on := 2, ground := Ground.guard }], guard := some (2, true) }) (v := .string (str p)) rfl (by kernel_rfl) (by kernel_rfl) (by kernel_rfl) (fun _ _ _ h => h) (Or.inl ⟨by rfl, fun w hSw => by have hc := conv_any (HQ.out.1.below hSw (Nat.le_refl _)) len1 cap1 HQ.out.2; go_simp⟩) (by assumption) ?_
            try simp only [Act.put, List.setIfInBounds_toArray, List.set_cons_zero, List.set_cons_succ]
            refine wpAnyH_ready (rs := [4]) (by kernel_rfl) (by simp) ?_
            refine AllReadyH.cons (o := { dst := some 169, op := Op.call { callee := Callee.value (Operand.func 19), args := #[Operand.tmp 168], argTypes := #[26] }, type := 56, pos := "law.go:157", after := #[{ on := 3, ground := Ground.data }, { on := 2, ground := Ground.chain }, { on := 2, ground := Ground.guard }], guard := some (2, true) }) rfl (fun K hK => ?_) AllReadyH.nil
            go_simp
            with_reducible refine (encode_any _ _ q9 t9 v9 (HT9.out.1.kept hHeld) HT9.out.2.2.1 HT9.out.2.2.2.1 HT9.out.2.2.2.2.1 (by have := HT9.out.2.2.2.2.2; omega)).mono ?_
            rintro e w9 ⟨u9, rfl, O9, B9⟩
            rw [HT9.out.2.1] at O9
            obtain ⟨A9, c9, hu9, hrd9, -, -⟩ := O9.form
            obtain ⟨m9, hm9⟩ : ∃ m, m = (p).length := ⟨_, rfl⟩
            rw [← hm9] at hu9
            subst hu9
            have HC9 := Lib.hid (And.intro hrd9 hm9)
            refine hK.out _ _ (hHeld.trans (B9.mono hHeld.size)) (fun hHeld => ?_)
            clear hK K
            try simp only [Act.put, List.setIfInBounds_toArray, List.set_cons_zero, List.set_cons_succ]
            clear O9 B9 hrd9 hm9
            refine wpAnyH_ready (rs := [5]) (by kernel_rfl) (by simp) ?_
            refine AllReadyH.cons (o := { dst := some 170, op := Op.convert 56 9 (Operand.tmp 169), type := 9, pos := "law.go:157", after := #[{ on := 4, ground := Ground.data }, { on := 2, ground := Ground.guard }], guard := some (2, true) }) rfl (fun K hK => ?_) AllReadyH.nil
            have hc := conv_any HC9.out.1 m9 c9 HC9.out.2
            go_simp
            refine hK.out _ _ (hHeld) (fun hHeld => ?_)
            clear hK K
            try simp only [Act.put, List.setIfInBounds_toArray, List.set_cons_zero, List.set_cons_succ]
            clear hc
            refine wpAnyH_take (i := 8) (oi := { dst := some 173, op := Op.binOp BinOp.neq 9 (Operand.tmp 170) (Operand.tmp 172) 9, type := 4, pos := "law.go:157", after := #[{ on := 5, ground := Ground.data }, { on := 7, ground := Ground.data }, { on := 2, ground := Ground.guard }], guard := some (2, true) }) (v := .bool false) rfl (by kernel_rfl) (by kernel_rfl) (by kernel_rfl) (fun _ _ _ h => h) (Or.inl ⟨by rfl, fun w hSw => by go_simp⟩) (by assumption) ?_
            try simp only [Act.put, List.setIfInBounds_toArray, List.set_cons_zero, List.set_cons_succ]
            refine wpAnyH_take (i := 9) (oi := { dst := some 174, op := Op.pick (Operand.tmp 167) (Operand.tmp 173) (Operand.const (Value.bool false)), type := 4, pos := "law.go:157", after := #[{ on := 2, ground := Ground.data }, { on := 8, ground := Ground.data }], guard := none }) (v := .bool false) rfl (by kernel_rfl) (by kernel_rfl) (by kernel_rfl) (fun _ _ _ h => h) (Or.inl ⟨by rfl, fun w hSw => by go_simp⟩) (by assumption) ?_
            try simp only [Act.put, List.setIfInBounds_toArray, List.set_cons_zero, List.set_cons_succ]
            refine wpAnyH_take (i := 10) (oi := { dst := some 175, op := Op.move (Operand.tmp 174), type := 4, pos := "law.go:157", after := #[{ on := 9, ground := Ground.data }, { on := 4, ground := Ground.chain }], guard := none }) (v := .bool false) rfl (by kernel_rfl) (by kernel_rfl) (by kernel_rfl) (fun _ _ _ h => h) (Or.inl ⟨by rfl, fun w hSw => by go_simp⟩) (by assumption) ?_
            try simp only [Act.put, List.setIfInBounds_toArray, List.set_cons_zero, List.set_cons_succ]
            refine wpAnyH_take (i := 11) (oi := { dst := some 176, op := Op.move (Operand.tmp 23), type := 59, pos := "law.go:157", after := #[{ on := 10, ground := Ground.guard }], guard := some (10, false) }) (v := .int .i64 0) rfl (by kernel_rfl) (by kernel_rfl) (by kernel_rfl) (fun _ _ _ h => h) (Or.inl ⟨by rfl, fun w hSw => by go_simp⟩) (by assumption) ?_
            try simp only [Act.put, List.setIfInBounds_toArray, List.set_cons_zero, List.set_cons_succ]
            refine wpAnyH_take (i := 12) (oi := { dst := some 177, op := Op.binOp BinOp.neq 59 (Operand.tmp 176) (Operand.const (Value.int IntKind.i64 0)) 59, type := 4, pos := "law.go:157", after := #[{ on := 11, ground := Ground.data }, { on := 10, ground := Ground.guard }], guard := some (10, false) }) (v := .bool false) rfl (by kernel_rfl) (by kernel_rfl) (by kernel_rfl) (fun _ _ _ h => h) (Or.inl ⟨by rfl, fun w hSw => by go_simp⟩) (by assumption) ?_
            try simp only [Act.put, List.setIfInBounds_toArray, List.set_cons_zero, List.set_cons_succ]
            refine wpAnyH_take (i := 13) (oi := { dst := some 178, op := Op.move (Operand.tmp 177), type := 4, pos := "law.go:157", after := #[{ on := 12, ground := Ground.data }, { on := 10, ground := Ground.chain }, { on := 10, ground := Ground.guard }], guard := some (10, false) }) (v := .bool false) rfl (by kernel_rfl) (by kernel_rfl) (by kernel_rfl) (fun _ _ _ h => h) (Or.inl ⟨by rfl, fun w hSw => by go_simp⟩) (by assumption) ?_
            try simp only [Act.put, List.setIfInBounds_toArray, List.set_cons_zero, List.set_cons_succ]
            refine wpAnyH_take (i := 14) (oi := { dst := some 179, op := Op.move (Operand.tmp 22), type := 26, pos := "law.go:157", after := #[{ on := 13, ground := Ground.guard }], guard := some (13, true) }) (v := undef) rfl (by kernel_rfl) (by kernel_rfl) (by kernel_rfl) (fun _ _ _ h => h) (Or.inr ⟨by rfl, rfl⟩) (by assumption) ?_
            try simp only [Act.put, List.setIfInBounds_toArray, List.set_cons_zero, List.set_cons_succ]
            refine wpAnyH_take (i := 15) (oi := { dst := some 180, op := Op.binOp BinOp.neq 26 (Operand.tmp 179) (Operand.const (Value.pointer none)) 26, type := 4, pos := "law.go:157", after := #[{ on := 14, ground := Ground.data }, { on := 13, ground := Ground.guard }], guard := some (13, true) }) (v := undef) rfl (by kernel_rfl) (by kernel_rfl) (by kernel_rfl) (fun _ _ _ h => h) (Or.inr ⟨by rfl, rfl⟩) (by assumption) ?_
            try simp only [Act.put, List.setIfInBounds_toArray, List.set_cons_zero, List.set_cons_succ]
            refine wpAnyH_take (i := 16) (oi := { dst := some 181, op := Op.pick (Operand.tmp 178) (Operand.tmp 180) (Operand.const (Value.bool false)), type := 4, pos := "law.go:157", after := #[{ on := 13, ground := Ground.data }, { on := 15, ground := Ground.data }, { on := 10, ground := Ground.guard }], guard := some (10, false) }) (v := .bool false) rfl (by kernel_rfl) (by kernel_rfl) (by kernel_rfl) (fun _ _ _ h => h) (Or.inl ⟨by rfl, fun w hSw => by go_simp⟩) (by assumption) ?_
            try simp only [Act.put, List.setIfInBounds_toArray, List.set_cons_zero, List.set_cons_succ]
            refine wpAnyH_take (i := 17) (oi := { dst := some 182, op := Op.pick (Operand.tmp 175) (Operand.const (Value.bool true)) (Operand.tmp 181), type := 4, pos := "law.go:157", after := #[{ on := 10, ground := Ground.data }, { on := 16, ground := Ground.data }], guard := none }) (v := .bool false) rfl (by kernel_rfl) (by kernel_rfl) (by kernel_rfl) (fun _ _ _ h => h) (Or.inl ⟨by rfl, fun w hSw => by go_simp⟩) (by assumption) ?_
            try simp only [Act.put, List.setIfInBounds_toArray, List.set_cons_zero, List.set_cons_succ]
            refine wpAnyH_done (by kernel_rfl) ?_ _
            try unfold NoPanic
            go_wp2
            go_roundw
            case rel => exact ⟨Or.inr (Or.inl rfl), HR2.out.trans (hHeld.mono HR2.out.size)⟩
            case measure => simp [intOf]
        · have k1 : wr.cell? ⟨ws.heap.size, 1, none⟩ = some (.slice (some ⟨g, 0, none⟩) m4 c4) := (cell_of_row wr _ 1 _ 56 (0, 0) ((HR.out.block _ HLW.out.2.2.2.2).trans HLW.out.2.2.2.1)).trans rfl
          go_upto_region 27 with (go_at_call 21; (with_reducible refine (decode_bytes (some ⟨g, 0, none⟩) m4 c4 y' _ HYL'.out (by have := HYA.out; have := HPA.out; omega) (HLW.out.2.2.1.below HR.out (Nat.le_refl _) |>.more HR.out.size)).mono ?_); rintro e wx HDD; obtain ⟨pv, er, rfl, HC⟩ := dec_case HDD; clear HDD)
          have HQ := Lib.hid (And.intro (((HLW.out.2.2.1.below HR.out (Nat.le_refl _)).more HR.out.size).below HC.out.1 (Nat.le_refl _) |>.more HC.out.1.size) (HYL'.out))
          have HR2 := Lib.hid (HR.out.trans (HC.out.1.mono HR.out.size))
          rcases HC.out.2 with ⟨hne, rfl⟩ | ⟨t9, q9, v9, rfl, rfl, T9, e9, f9, n9, m9', l9⟩
          · have hne' : ¬ (er : Int) = 0 := by omega
            refine wp_region_noPanic ?_
            refine wp_region_held_drew (S := fun x : World => Below wx.heap.size wx x) (by kernel_rfl) (Below.refl _ _).drew (fun hHeld => ?_)
            generalize wx.drew = wd at *
            refine wpAnyH_take (i := 0) (oi := { dst := some 165, op := Op.move (Operand.tmp 23), type := 59, pos := "law.go:157", after := #[], guard := none }) (v := .int .i64 (er : Int)) rfl (by kernel_rfl) (by kernel_rfl) (by kernel_rfl) (fun _ _ _ h => h) (Or.inl ⟨by rfl, fun w hSw => by go_simp⟩) (by assumption) ?_
            try simp only [Act.put, List.setIfInBounds_toArray, List.set_cons_zero, List.set_cons_succ]
            refine wpAnyH_take (i := 1) (oi := { dst := some 166, op := Op.binOp BinOp.eql 59 (Operand.tmp 165) (Operand.const (Value.int IntKind.i64 0)) 59, type := 4, pos := "law.go:157", after := #[{ on := 0, ground := Ground.data }], guard := none }) (v := .bool false) rfl (by kernel_rfl) (by kernel_rfl) (by kernel_rfl) (fun _ _ _ h => h) (Or.inl ⟨by rfl, fun w hSw => by go_simp⟩) (by assumption) ?_
            try simp only [Act.put, List.setIfInBounds_toArray, List.set_cons_zero, List.set_cons_succ]
            refine wpAnyH_take (i := 2) (oi := { dst := some 167, op := Op.move (Operand.tmp 166), type := 4, pos := "law.go:157", after := #[{ on := 1, ground := Ground.data }], guard := none }) (v := .bool false) rfl (by kernel_rfl) (by kernel_rfl) (by kernel_rfl) (fun _ _ _ h => h) (Or.inl ⟨by rfl, fun w hSw => by go_simp⟩) (by assumption) ?_
            try simp only [Act.put, List.setIfInBounds_toArray, List.set_cons_zero, List.set_cons_succ]
            refine wpAnyH_take (i := 3) (oi := { dst := some 168, op := Op.move (Operand.tmp 22), type := 26, pos := "law.go:157", after := #[{ on := 2, ground := Ground.guard }], guard := some (2, true) }) (v := undef) rfl (by kernel_rfl) (by kernel_rfl) (by kernel_rfl) (fun _ _ _ h => h) (Or.inr ⟨by rfl, rfl⟩) (by assumption) ?_
            try simp only [Act.put, List.setIfInBounds_toArray, List.set_cons_zero, List.set_cons_succ]
            refine wpAnyH_take (i := 4) (oi := { dst := some 169, op := Op.call { callee := Callee.value (Operand.func 19), args := #[Operand.tmp 168], argTypes := #[26] }, type := 56, pos := "law.go:157", after := #[{ on := 3, ground := Ground.data }, { on := 2, ground := Ground.chain }, { on := 2, ground := Ground.guard }], guard := some (2, true) }) (v := undef) rfl (by kernel_rfl) (by kernel_rfl) (by kernel_rfl) (fun _ _ _ h => h) (Or.inr ⟨by rfl, rfl⟩) (by assumption) ?_
            try simp only [Act.put, List.setIfInBounds_toArray, List.set_cons_zero, List.set_cons_succ]
            refine wpAnyH_take (i := 5) (oi := { dst := some 170, op := Op.convert 56 9 (Operand.tmp 169), type := 9, pos := "law.go:157", after := #[{ on := 4, ground := Ground.data }, { on := 2, ground := Ground.guard }], guard := some (2, true) }) (v := undef) rfl (by kernel_rfl) (by kernel_rfl) (by kernel_rfl) (fun _ _ _ h => h) (Or.inr ⟨by rfl, rfl⟩) (by assumption) ?_
            try simp only [Act.put, List.setIfInBounds_toArray, List.set_cons_zero, List.set_cons_succ]
            refine wpAnyH_take (i := 6) (oi := { dst := some 171, op := Op.move (Operand.tmp 21), type := 56, pos := "law.go:157", after := #[{ on := 2, ground := Ground.guard }], guard := some (2, true) }) (v := undef) rfl (by kernel_rfl) (by kernel_rfl) (by kernel_rfl) (fun _ _ _ h => h) (Or.inr ⟨by rfl, rfl⟩) (by assumption) ?_
            try simp only [Act.put, List.setIfInBounds_toArray, List.set_cons_zero, List.set_cons_succ]
            refine wpAnyH_take (i := 7) (oi := { dst := some 172, op := Op.convert 56 9 (Operand.tmp 171), type := 9, pos := "law.go:157", after := #[{ on := 6, ground := Ground.data }, { on := 2, ground := Ground.guard }], guard := some (2, true) }) (v := undef) rfl (by kernel_rfl) (by kernel_rfl) (by kernel_rfl) (fun _ _ _ h => h) (Or.inr ⟨by rfl, rfl⟩) (by assumption) ?_
            try simp only [Act.put, List.setIfInBounds_toArray, List.set_cons_zero, List.set_cons_succ]
            refine wpAnyH_take (i := 8) (oi := { dst := some 173, op := Op.binOp BinOp.neq 9 (Operand.tmp 170) (Operand.tmp 172) 9, type := 4, pos := "law.go:157", after := #[{ on := 5, ground := Ground.data }, { on := 7, ground := Ground.data }, { on := 2, ground := Ground.guard }], guard := some (2, true) }) (v := undef) rfl (by kernel_rfl) (by kernel_rfl) (by kernel_rfl) (fun _ _ _ h => h) (Or.inr ⟨by rfl, rfl⟩) (by assumption) ?_
            try simp only [Act.put, List.setIfInBounds_toArray, List.set_cons_zero, List.set_cons_succ]
            refine wpAnyH_take (i := 9) (oi := { dst := some 174, op := Op.pick (Operand.tmp 167) (Operand.tmp 173) (Operand.const (Value.bool false)), type := 4, pos := "law.go:157", after := #[{ on := 2, ground := Ground.data }, { on := 8, ground := Ground.data }], guard := none }) (v := .bool false) rfl (by kernel_rfl) (by kernel_rfl) (by kernel_rfl) (fun _ _ _ h => h) (Or.inl ⟨by rfl, fun w hSw => by go_simp⟩) (by assumption) ?_
            try simp only [Act.put, List.setIfInBounds_toArray, List.set_cons_zero, List.set_cons_succ]
            refine wpAnyH_take (i := 10) (oi := { dst := some 175, op := Op.move (Operand.tmp 174), type := 4, pos := "law.go:157", after := #[{ on := 9, ground := Ground.data }, { on := 4, ground := Ground.chain }], guard := none }) (v := .bool false) rfl (by kernel_rfl) (by kernel_rfl) (by kernel_rfl) (fun _ _ _ h => h) (Or.inl ⟨by rfl, fun w hSw => by go_simp⟩) (by assumption) ?_
            try simp only [Act.put, List.setIfInBounds_toArray, List.set_cons_zero, List.set_cons_succ]
            refine wpAnyH_take (i := 11) (oi := { dst := some 176, op := Op.move (Operand.tmp 23), type := 59, pos := "law.go:157", after := #[{ on := 10, ground := Ground.guard }], guard := some (10, false) }) (v := .int .i64 (er : Int)) rfl (by kernel_rfl) (by kernel_rfl) (by kernel_rfl) (fun _ _ _ h => h) (Or.inl ⟨by rfl, fun w hSw => by go_simp⟩) (by assumption) ?_
            try simp only [Act.put, List.setIfInBounds_toArray, List.set_cons_zero, List.set_cons_succ]
            refine wpAnyH_take (i := 12) (oi := { dst := some 177, op := Op.binOp BinOp.neq 59 (Operand.tmp 176) (Operand.const (Value.int IntKind.i64 0)) 59, type := 4, pos := "law.go:157", after := #[{ on := 11, ground := Ground.data }, { on := 10, ground := Ground.guard }], guard := some (10, false) }) (v := .bool true) rfl (by kernel_rfl) (by kernel_rfl) (by kernel_rfl) (fun _ _ _ h => h) (Or.inl ⟨by rfl, fun w hSw => by go_simp⟩) (by assumption) ?_
            try simp only [Act.put, List.setIfInBounds_toArray, List.set_cons_zero, List.set_cons_succ]
            refine wpAnyH_take (i := 13) (oi := { dst := some 178, op := Op.move (Operand.tmp 177), type := 4, pos := "law.go:157", after := #[{ on := 12, ground := Ground.data }, { on := 10, ground := Ground.chain }, { on := 10, ground := Ground.guard }], guard := some (10, false) }) (v := .bool true) rfl (by kernel_rfl) (by kernel_rfl) (by kernel_rfl) (fun _ _ _ h => h) (Or.inl ⟨by rfl, fun w hSw => by go_simp⟩) (by assumption) ?_
            try simp only [Act.put, List.setIfInBounds_toArray, List.set_cons_zero, List.set_cons_succ]
            refine wpAnyH_take (i := 14) (oi := { dst := some 179, op := Op.move (Operand.tmp 22), type := 26, pos := "law.go:157", after := #[{ on := 13, ground := Ground.guard }], guard := some (13, true) }) (v := .pointer none) rfl (by kernel_rfl) (by kernel_rfl) (by kernel_rfl) (fun _ _ _ h => h) (Or.inl ⟨by rfl, fun w hSw => by go_simp⟩) (by assumption) ?_
            try simp only [Act.put, List.setIfInBounds_toArray, List.set_cons_zero, List.set_cons_succ]
            refine wpAnyH_take (i := 15) (oi := { dst := some 180, op := Op.binOp BinOp.neq 26 (Operand.tmp 179) (Operand.const (Value.pointer none)) 26, type := 4, pos := "law.go:157", after := #[{ on := 14, ground := Ground.data }, { on := 13, ground := Ground.guard }], guard := some (13, true) }) (v := .bool false) rfl (by kernel_rfl) (by kernel_rfl) (by kernel_rfl) (fun _ _ _ h => h) (Or.inl ⟨by rfl, fun w hSw => by go_simp⟩) (by assumption) ?_
            try simp only [Act.put, List.setIfInBounds_toArray, List.set_cons_zero, List.set_cons_succ]
            refine wpAnyH_take (i := 16) (oi := { dst := some 181, op := Op.pick (Operand.tmp 178) (Operand.tmp 180) (Operand.const (Value.bool false)), type := 4, pos := "law.go:157", after := #[{ on := 13, ground := Ground.data }, { on := 15, ground := Ground.data }, { on := 10, ground := Ground.guard }], guard := some (10, false) }) (v := .bool false) rfl (by kernel_rfl) (by kernel_rfl) (by kernel_rfl) (fun _ _ _ h => h) (Or.inl ⟨by rfl, fun w hSw => by go_simp⟩) (by assumption) ?_
            try simp only [Act.put, List.setIfInBounds_toArray, List.set_cons_zero, List.set_cons_succ]
            refine wpAnyH_take (i := 17) (oi := { dst := some 182, op := Op.pick (Operand.tmp 175) (Operand.const (Value.bool true)) (Operand.tmp 181), type := 4, pos := "law.go:157", after := #[{ on := 10, ground := Ground.data }, { on := 16, ground := Ground.data }], guard := none }) (v := .bool false) rfl (by kernel_rfl) (by kernel_rfl) (by kernel_rfl) (fun _ _ _ h => h) (Or.inl ⟨by rfl, fun w hSw => by go_simp⟩) (by assumption) ?_
            try simp only [Act.put, List.setIfInBounds_toArray, List.set_cons_zero, List.set_cons_succ]
            refine wpAnyH_done (by kernel_rfl) ?_ _
            try unfold NoPanic
            go_wp2
            go_roundw
            case rel => exact ⟨Or.inr (Or.inr rfl), HR2.out.trans (hHeld.mono HR2.out.size)⟩
            case measure => simp [intOf]
          · have HT9 := Lib.hid (And.intro T9 (And.intro e9 (And.intro f9 (And.intro n9 (And.intro m9' (show t9.rows.length ≤ 1000 by have h5 := enc_five e9; have := HYA.out; have := HPA.out; omega))))))
            clear T9 e9 f9 n9 m9' l9 HC
            refine wp_region_noPanic ?_
            refine wp_region_held_drew (S := fun x : World => Below wx.heap.size wx x) (by kernel_rfl) (Below.refl _ _).drew (fun hHeld => ?_)
            generalize wx.drew = wd at *
            refine wpAnyH_take (i := 0) (oi := { dst := some 165, op := Op.move (Operand.tmp 23), type := 59, pos := "law.go:157", after := #[], guard := none }) (v := .int .i64 0) rfl (by kernel_rfl) (by kernel_rfl) (by kernel_rfl) (fun _ _ _ h => h) (Or.inl ⟨by rfl, fun w hSw => by go_simp⟩) (by assumption) ?_
            try simp only [Act.put, List.setIfInBounds_toArray, List.set_cons_zero, List.set_cons_succ]
            refine wpAnyH_take (i := 1) (oi := { dst := some 166, op := Op.binOp BinOp.eql 59 (Operand.tmp 165) (Operand.const (Value.int IntKind.i64 0)) 59, type := 4, pos := "law.go:157", after := #[{ on := 0, ground := Ground.data }], guard := none }) (v := .bool true) rfl (by kernel_rfl) (by kernel_rfl) (by kernel_rfl) (fun _ _ _ h => h) (Or.inl ⟨by rfl, fun w hSw => by go_simp⟩) (by assumption) ?_
            try simp only [Act.put, List.setIfInBounds_toArray, List.set_cons_zero, List.set_cons_succ]
            refine wpAnyH_take (i := 2) (oi := { dst := some 167, op := Op.move (Operand.tmp 166), type := 4, pos := "law.go:157", after := #[{ on := 1, ground := Ground.data }], guard := none }) (v := .bool true) rfl (by kernel_rfl) (by kernel_rfl) (by kernel_rfl) (fun _ _ _ h => h) (Or.inl ⟨by rfl, fun w hSw => by go_simp⟩) (by assumption) ?_
            try simp only [Act.put, List.setIfInBounds_toArray, List.set_cons_zero, List.set_cons_succ]
            refine wpAnyH_take (i := 3) (oi := { dst := some 168, op := Op.move (Operand.tmp 22), type := 26, pos := "law.go:157", after := #[{ on := 2, ground := Ground.guard }], guard := some (2, true) }) (v := .pointer (some ⟨q9, 0, none⟩)) rfl (by kernel_rfl) (by kernel_rfl) (by kernel_rfl) (fun _ _ _ h => h) (Or.inl ⟨by rfl, fun w hSw => by go_simp⟩) (by assumption) ?_
            try simp only [Act.put, List.setIfInBounds_toArray, List.set_cons_zero, List.set_cons_succ]
            refine wpAnyH_take (i := 6) (oi := { dst := some 171, op := Op.move (Operand.tmp 21), type := 56, pos := "law.go:157", after := #[{ on := 2, ground := Ground.guard }], guard := some (2, true) }) (v := .slice (some ⟨g, 0, none⟩) m4 c4) rfl (by kernel_rfl) (by kernel_rfl) (by kernel_rfl) (fun _ _ _ h => h) (Or.inl ⟨by rfl, fun w hSw => by go_simp⟩) (by assumption) ?_
            try simp only [Act.put, List.setIfInBounds_toArray, List.set_cons_zero, List.set_cons_succ]
            refine wpAnyH_take (i := 7) (oi := { dst := some 172, op := Op.convert 56 9 (Operand.tmp 171), type := 9, pos := "law.go:157", after := #[{ on := 6, ground := Ground.data }, { on := 2, ground := Ground.guard }], guard := some (2, true) }) (v := .string (str y')) rfl (by kernel_rfl) (by kernel_rfl) (by kernel_rfl) (fun _ _ _ h => h) (Or.inl ⟨by rfl, fun w hSw => by have hc := conv_any (HQ.out.1.below hSw (Nat.le_refl _)) m4 c4 HQ.out.2; go_simp⟩) (by assumption) ?_
            try simp only [Act.put, List.setIfInBounds_toArray, List.set_cons_zero, List.set_cons_succ]
            refine wpAnyH_ready (rs := [4]) (by kernel_rfl) (by simp) ?_
            refine AllReadyH.cons (o := { dst := some 169, op := Op.call { callee := Callee.value (Operand.func 19), args := #[Operand.tmp 168], argTypes := #[26] }, type := 56, pos := "law.go:157", after := #[{ on := 3, ground := Ground.data }, { on := 2, ground := Ground.chain }, { on := 2, ground := Ground.guard }], guard := some (2, true) }) rfl (fun K hK => ?_) AllReadyH.nil
            go_simp
            with_reducible refine (encode_any _ _ q9 t9 v9 (HT9.out.1.kept hHeld) HT9.out.2.2.1 HT9.out.2.2.2.1 HT9.out.2.2.2.2.1 (by have := HT9.out.2.2.2.2.2; omega)).mono ?_
            rintro e w9 ⟨u9, rfl, O9, B9⟩
            rw [HT9.out.2.1] at O9
            obtain ⟨A9, c9, hu9, hrd9, -, -⟩ := O9.form
            obtain ⟨m9, hm9⟩ : ∃ m, m = (y').length := ⟨_, rfl⟩
            rw [← hm9] at hu9
            subst hu9
            have HC9 := Lib.hid (And.intro hrd9 hm9)
            refine hK.out _ _ (hHeld.trans (B9.mono hHeld.size)) (fun hHeld => ?_)
            clear hK K
            try simp only [Act.put, List.setIfInBounds_toArray, List.set_cons_zero, List.set_cons_succ]
            clear O9 B9 hrd9 hm9
            refine wpAnyH_ready (rs := [5]) (by kernel_rfl) (by simp) ?_
            refine AllReadyH.cons (o := { dst := some 170, op := Op.convert 56 9 (Operand.tmp 169), type := 9, pos := "law.go:157", after := #[{ on := 4, ground := Ground.data }, { on := 2, ground := Ground.guard }], guard := some (2, true) }) rfl (fun K hK => ?_) AllReadyH.nil
            have hc := conv_any HC9.out.1 m9 c9 HC9.out.2
            go_simp
            refine hK.out _ _ (hHeld) (fun hHeld => ?_)
            clear hK K
            try simp only [Act.put, List.setIfInBounds_toArray, List.set_cons_zero, List.set_cons_succ]
            clear hc
            refine wpAnyH_take (i := 8) (oi := { dst := some 173, op := Op.binOp BinOp.neq 9 (Operand.tmp 170) (Operand.tmp 172) 9, type := 4, pos := "law.go:157", after := #[{ on := 5, ground := Ground.data }, { on := 7, ground := Ground.data }, { on := 2, ground := Ground.guard }], guard := some (2, true) }) (v := .bool false) rfl (by kernel_rfl) (by kernel_rfl) (by kernel_rfl) (fun _ _ _ h => h) (Or.inl ⟨by rfl, fun w hSw => by go_simp⟩) (by assumption) ?_
            try simp only [Act.put, List.setIfInBounds_toArray, List.set_cons_zero, List.set_cons_succ]
            refine wpAnyH_take (i := 9) (oi := { dst := some 174, op := Op.pick (Operand.tmp 167) (Operand.tmp 173) (Operand.const (Value.bool false)), type := 4, pos := "law.go:157", after := #[{ on := 2, ground := Ground.data }, { on := 8, ground := Ground.data }], guard := none }) (v := .bool false) rfl (by kernel_rfl) (by kernel_rfl) (by kernel_rfl) (fun _ _ _ h => h) (Or.inl ⟨by rfl, fun w hSw => by go_simp⟩) (by assumption) ?_
            try simp only [Act.put, List.setIfInBounds_toArray, List.set_cons_zero, List.set_cons_succ]
            refine wpAnyH_take (i := 10) (oi := { dst := some 175, op := Op.move (Operand.tmp 174), type := 4, pos := "law.go:157", after := #[{ on := 9, ground := Ground.data }, { on := 4, ground := Ground.chain }], guard := none }) (v := .bool false) rfl (by kernel_rfl) (by kernel_rfl) (by kernel_rfl) (fun _ _ _ h => h) (Or.inl ⟨by rfl, fun w hSw => by go_simp⟩) (by assumption) ?_
            try simp only [Act.put, List.setIfInBounds_toArray, List.set_cons_zero, List.set_cons_succ]
            refine wpAnyH_take (i := 11) (oi := { dst := some 176, op := Op.move (Operand.tmp 23), type := 59, pos := "law.go:157", after := #[{ on := 10, ground := Ground.guard }], guard := some (10, false) }) (v := .int .i64 0) rfl (by kernel_rfl) (by kernel_rfl) (by kernel_rfl) (fun _ _ _ h => h) (Or.inl ⟨by rfl, fun w hSw => by go_simp⟩) (by assumption) ?_
            try simp only [Act.put, List.setIfInBounds_toArray, List.set_cons_zero, List.set_cons_succ]
            refine wpAnyH_take (i := 12) (oi := { dst := some 177, op := Op.binOp BinOp.neq 59 (Operand.tmp 176) (Operand.const (Value.int IntKind.i64 0)) 59, type := 4, pos := "law.go:157", after := #[{ on := 11, ground := Ground.data }, { on := 10, ground := Ground.guard }], guard := some (10, false) }) (v := .bool false) rfl (by kernel_rfl) (by kernel_rfl) (by kernel_rfl) (fun _ _ _ h => h) (Or.inl ⟨by rfl, fun w hSw => by go_simp⟩) (by assumption) ?_
            try simp only [Act.put, List.setIfInBounds_toArray, List.set_cons_zero, List.set_cons_succ]
            refine wpAnyH_take (i := 13) (oi := { dst := some 178, op := Op.move (Operand.tmp 177), type := 4, pos := "law.go:157", after := #[{ on := 12, ground := Ground.data }, { on := 10, ground := Ground.chain }, { on := 10, ground := Ground.guard }], guard := some (10, false) }) (v := .bool false) rfl (by kernel_rfl) (by kernel_rfl) (by kernel_rfl) (fun _ _ _ h => h) (Or.inl ⟨by rfl, fun w hSw => by go_simp⟩) (by assumption) ?_
            try simp only [Act.put, List.setIfInBounds_toArray, List.set_cons_zero, List.set_cons_succ]
            refine wpAnyH_take (i := 14) (oi := { dst := some 179, op := Op.move (Operand.tmp 22), type := 26, pos := "law.go:157", after := #[{ on := 13, ground := Ground.guard }], guard := some (13, true) }) (v := undef) rfl (by kernel_rfl) (by kernel_rfl) (by kernel_rfl) (fun _ _ _ h => h) (Or.inr ⟨by rfl, rfl⟩) (by assumption) ?_
            try simp only [Act.put, List.setIfInBounds_toArray, List.set_cons_zero, List.set_cons_succ]
            refine wpAnyH_take (i := 15) (oi := { dst := some 180, op := Op.binOp BinOp.neq 26 (Operand.tmp 179) (Operand.const (Value.pointer none)) 26, type := 4, pos := "law.go:157", after := #[{ on := 14, ground := Ground.data }, { on := 13, ground := Ground.guard }], guard := some (13, true) }) (v := undef) rfl (by kernel_rfl) (by kernel_rfl) (by kernel_rfl) (fun _ _ _ h => h) (Or.inr ⟨by rfl, rfl⟩) (by assumption) ?_
            try simp only [Act.put, List.setIfInBounds_toArray, List.set_cons_zero, List.set_cons_succ]
            refine wpAnyH_take (i := 16) (oi := { dst := some 181, op := Op.pick (Operand.tmp 178) (Operand.tmp 180) (Operand.const (Value.bool false)), type := 4, pos := "law.go:157", after := #[{ on := 13, ground := Ground.data }, { on := 15, ground := Ground.data }, { on := 10, ground := Ground.guard }], guard := some (10, false) }) (v := .bool false) rfl (by kernel_rfl) (by kernel_rfl) (by kernel_rfl) (fun _ _ _ h => h) (Or.inl ⟨by rfl, fun w hSw => by go_simp⟩) (by assumption) ?_
            try simp only [Act.put, List.setIfInBounds_toArray, List.set_cons_zero, List.set_cons_succ]
            refine wpAnyH_take (i := 17) (oi := { dst := some 182, op := Op.pick (Operand.tmp 175) (Operand.const (Value.bool true)) (Operand.tmp 181), type := 4, pos := "law.go:157", after := #[{ on := 10, ground := Ground.data }, { on := 16, ground := Ground.data }], guard := none }) (v := .bool false) rfl (by kernel_rfl) (by kernel_rfl) (by kernel_rfl) (fun _ _ _ h => h) (Or.inl ⟨by rfl, fun w hSw => by go_simp⟩) (by assumption) ?_
            try simp only [Act.put, List.setIfInBounds_toArray, List.set_cons_zero, List.set_cons_succ]
            refine wpAnyH_done (by kernel_rfl) ?_ _
            try unfold NoPanic
            go_wp2
            go_roundw
            case rel => exact ⟨Or.inr (Or.inr rfl), HR2.out.trans (hHeld.mono HR2.out.size)⟩
            case measure => simp [intOf]
        · go_wp2
          go_ret
          exact ⟨rfl, HLW.out.1.trans (HR.out.mono HLW.out.1.size)⟩

set_option maxRecDepth 100000 in
theorem lifted (os : Os) (started : os.Started) (H : Type) (enc : TypeId × Value → H) :
    ReturnsInHanded {} Try.checked os 4 .any (Rows.tableBytesSpec.pre6 enc Try.prog Try.f4 Rows.tableBytesRow.domain false) (Rows.tableBytesSpec.post enc Try.prog Try.f4 false true false false) := by
  refine returnsInHanded_of_change (C := Try.checked) own started (by kernel_rfl) Try.func4
    (ChangeSpec.witness6 (enc := enc) (C := Try.checked) false ⟨#[], #[.slice none 0 0, .slice none 0 0, .int .u16 0, .int .u8 0], []⟩ 8 (by kernel_rfl) (by kernel_rfl) (by kernel_rfl) (by kernel_rfl)) ?_
  intro W base args ds gs before hval0 hW hcnd _
  have hval : ∀ (j : Nat) t v, Try.f4.params[j]? = some t → args[j]? = some v → Value.okWide Try.prog W .any base t v := hval0
  have hW' := hW
  obtain ⟨p, q, hA0, hV, rfl, hfz, hnd⟩ := hW
  have hA : DataW.TrodAll enc Try.prog W 0 (fun _ => true) true Try.f4.params.toList args.toList ds p := hA0
  rw [Try.params4] at hA hval
  obtain ⟨v0, vs0, d0, ds0, p0, q0, hargs, rfl, rfl, h0, r0⟩ := trodAll_cons hA
  obtain ⟨v1, vs1, d1, ds1, p1, q1, rfl, rfl, rfl, h1, r1⟩ := trodAll_cons r0
  obtain ⟨v2, vs2, d2, ds2, p2, q2, rfl, rfl, rfl, h2, r2⟩ := trodAll_cons r1
  obtain ⟨v3, vs3, d3, ds3, p3, q3, rfl, rfl, rfl, h3, r3⟩ := trodAll_cons r2
  obtain ⟨rfl, rfl, rfl⟩ := trodAll_nil r3
  obtain rfl : args = #[v0, v1, v2, v3] := by cases args; simp_all
  obtain ⟨rfl, rfl⟩ := trodVars_none hV
  obtain ⟨a0, len0, cap0, rfl⟩ := okWide_slice Try.underlying22 (hval 0 22 v0 rfl rfl)
  have k0 := h0
  have lt0 : ∀ x ∈ p0, x.block < W.heap.size := by obtain ⟨m, hm⟩ := k0; exact DataW.trod_lt m _ _ _ hm
  obtain ⟨z0, w0⟩ : ∃ zs, IsActs W a0 len0 cap0 zs := by
    obtain ⟨fuel, hf⟩ := h0
    obtain ⟨a, l, c, ds, hcs, hds⟩ := acts_of hf
    simp [Value.cells] at hcs
    obtain ⟨rfl, rfl, rfl⟩ := hcs
    exact ⟨ds, hds⟩
  obtain ⟨a1, len1, cap1, rfl⟩ := okWide_slice Try.underlying56 (hval 1 56 v1 rfl rfl)
  have k1 := h1
  have lt1 : ∀ x ∈ p1, x.block < W.heap.size := by obtain ⟨m, hm⟩ := k1; exact DataW.trod_lt m _ _ _ hm
  obtain ⟨z1, w1⟩ : ∃ zs, IsRow .u8 W a1 len1 cap1 zs := by
    obtain ⟨fuel, hf⟩ := h1
    rcases open_ints Try.underlying56 Try.underlying5 (by kernel_rfl) hf with ⟨hcs, _⟩ | ⟨x, l, c, zs, hcs, _, hl, hm, hz, _, hcell, hwz⟩
    · simp [Value.cells] at hcs
      obtain ⟨rfl, rfl, rfl⟩ := hcs
      exact ⟨[], .inl ⟨rfl, rfl, rfl, rfl⟩⟩
    · simp [Value.cells] at hcs
      obtain ⟨rfl, rfl, rfl⟩ := hcs
      exact ⟨zs, .inr ⟨_, rfl, hl, hm, by simpa using hz, hcell, hwz⟩⟩
  obtain ⟨a2, rfl, rfl, rfl, w2⟩ := open_int Try.underlying34 (hval 2 34 v2 rfl rfl) h2
  obtain ⟨a3, rfl, rfl, rfl, w3⟩ := open_int Try.underlying5 (hval 3 5 v3 rfl rfl) h3
  clear hA0 hval0
  refine (walk a0 len0 cap0 z0 a1 len1 cap1 z1 a2 a3 W w0 w1 w2 w3).mono fun e W' ⟨he, bel⟩ => ?_
  subst he
  exact ⟨_, rfl, _, _, _, [], _, [], hW', trodAll_mk1 (shut_bool Try.underlying4 _), (trodAll_cons_mk (Below.trod laidOut (by kernel_rfl) (of_decide_eq_true (by kernel_rfl)) k0 bel lt0) (trodAll_cons_mk (Below.trod laidOut (by kernel_rfl) (of_decide_eq_true (by kernel_rfl)) k1 bel lt1) (trodAll_cons_mk (shut_int Try.underlying34 w2) (trodAll_cons_mk (shut_int Try.underlying5 w3) trodAll_mk0)))), rfl, bel.frame _, fun h => by cases h⟩

theorem over : Rows.tableBytesRow.holds Try.pinned (OpenSpec.ofChange Rows.tableBytesSpec) :=
  OpenClaim.holds_of_wide 4 Try.f4 rfl rfl rfl rfl rfl rfl rfl ⟨rfl, rfl, rfl, rfl, rfl⟩ rfl rfl rfl rfl rfl (by kernel_rfl) Try.func4 (by kernel_rfl)
    (of_decide_eq_true (by kernel_rfl)) (by unfold Func.isWrapper; first | (rw [if_pos (by decide +kernel)]; kernel_rfl) | (rw [if_neg (by decide +kernel)]; exact ⟨rfl, rfl⟩))
    (fun os started H enc _ => lifted os started H enc)

theorem proved : Rows.TableBytesSaid := over
#print axioms proved
end Go.Proofs.Ytcgncecjbkpmkaa.tableBytes
