/-
  'For every input the Go function milestonelaw04.TallyTurns returns true, and each argument reads behind the call as it read before.'
  Conditions: none but the row's own (linux/amd64, sizes of what is read within the address space).
-/
import Derived.Test.YtpmjkniohnhkbaaRows
import Derived.WalkKit
import Derived.ProofKit
import Derived.OpenShut
import Derived.ShutString
import Derived.ChangeOld
import Derived.Below
import Derived.Lib.SmallJoins
import Derived.Lib.Hide
import Derived.Test.YtpmjkniohnhkbaaApp
import Derived.StillTailTactics
namespace Go.Proofs.Ytpmjkniohnhkbaa.tallyTurns
open Go.Proofs.Ytpmjkniohnhkbaa.Tal
open Go.ChangeShapes Go.WideShapes Go.ChangeAt Go.RowKit
open Go.ChangeMaps (open_string shut_string)
set_option linter.unusedVariables false

theorem own : ownKnob Try.prog.godebug = none := by kernel_rfl
theorem laidOut : laidOutB Try.prog = true := by kernel_rfl

theorem Own.head {w : World} {B : Nat} {v : Value} {l : List UInt8} (h : Own w B v l) (h0 : 0 < l.length) : ∃ g cap, v = .slice (some ⟨g, 0, none⟩) l.length cap ∧ B ≤ g ∧ l.length ≤ cap := by
  obtain ⟨_, ⟨_, h1⟩ | ⟨g, cap, cur, rfl, hB, _, hle, _, _, _⟩⟩ := h
  · omega
  · exact ⟨g, cap, rfl, hB, hle⟩
theorem Own.at_ {w : World} {B g cap m : Nat} {l : List UInt8} (h : Own w B (.slice (some ⟨g, 0, none⟩) m cap) l) (hm : m = l.length) (j : Nat) (hj : j < l.length) : w.cell? ⟨g, j, none⟩ = some (b8 l[j]) := by
  subst hm
  have := World.ownsRow.cellAt h j (by omega)
  rw [this]; simp [hj]
theorem Own.ice {w : World} {B g cap m : Nat} {l : List UInt8} (h : Own w B (.slice (some ⟨g, 0, none⟩) m cap) l) (hm : m = l.length) (j : Nat) : w.frozen? ⟨g, j, none⟩ = false := by
  subst hm
  exact World.ownsRow.frozenAt h j
theorem Own.set_ {w : World} {B g cap m : Nat} {l : List UInt8} (h : Own w B (.slice (some ⟨g, 0, none⟩) m cap) l) (hm : m = l.length) (j : Nat) (b : UInt8) : Own (w.setCell ⟨g, j, none⟩ (b8 b)) B (.slice (some ⟨g, 0, none⟩) m cap) (l.set j b) := by
  subst hm
  have := World.ownsRow.stored h j (b8 b)
  unfold Own
  rw [List.length_set, List.map_set]
  exact this.1
/-- Some bits are turned, so far. -/
def Turned (p Q : List UInt8) (k i v : Nat) : Prop := Q.length = p.length ∧ ∀ n, n < 8 * p.length → bitAt Q n = (bitAt p n + if k ≤ n ∧ n < k + i then v / 2 ^ (n - k) % 2 else 0) % 2
theorem Turned.start (p : List UInt8) (k v : Nat) : Turned p p k 0 v := ⟨rfl, fun n _ => by
  have : bitAt p n < 2 := by unfold bitAt; omega
  rw [if_neg (by omega)]; omega⟩
theorem Turned.same {p Q : List UInt8} {k i v : Nat} (h : Turned p Q k i v) (h0 : v / 2 ^ i % 2 = 0) : Turned p Q k (i + 1) v := ⟨h.1, fun n hn => by
  rw [h.2 n hn]
  congr 2
  by_cases e : n = k + i
  · subst e
    rw [if_neg (by omega), if_pos (by omega), Nat.add_sub_cancel_left, h0]
  · by_cases e2 : k ≤ n ∧ n < k + i
    · rw [if_pos e2, if_pos (by omega)]
    · rw [if_neg e2, if_neg (by omega)]⟩
theorem Turned.turn {p Q : List UInt8} {k i v : Nat} (h : Turned p Q k i v) (h1 : v / 2 ^ i % 2 = 1) (hn : (k + i) / 8 < Q.length) : Turned p (Q.set ((k + i) / 8) (UInt8.ofNat ((Q[(k + i) / 8]).toNat ^^^ 2 ^ ((k + i) % 8)))) k (i + 1) v := ⟨by rw [List.length_set]; exact h.1, fun n hn' => by
  rw [bitAt_turn Q (k + i) hn n (by rw [h.1]; exact hn'), h.2 n hn']
  by_cases e : n = k + i
  · subst e
    rw [if_neg (by omega), if_pos rfl, if_pos (by omega), Nat.add_sub_cancel_left, h1]; omega
  · rw [if_neg e]
    by_cases e2 : k ≤ n ∧ n < k + i
    · rw [if_pos e2, if_pos (by omega)]; omega
    · rw [if_neg e2, if_neg (by omega)]; omega⟩
theorem Turned.sums {p Q : List UInt8} {k i v : Nat} (h : Turned p Q k i v) (hi : i ≤ 32) (hk : k + i ≤ 8 * p.length) : (((more 0 Q : Nat) : Int) == ((more 0 p : Nat) : Int)) = !decide (v % 2 ^ i ≠ 0) := by
  have := more_burst p Q h.1 k i v hi hk h.2
  rw [Bool.eq_iff_iff]
  simp only [beq_iff_eq, Bool.not_eq_true', decide_eq_false_iff_not, ne_eq, Decidable.not_not]
  rw [← this]; omega
theorem some_step (v i : Nat) : decide (v % 2 ^ (i + 1) ≠ 0) = (decide (v % 2 ^ i ≠ 0) || decide (v / 2 ^ i % 2 = 1)) := by
  have hp := Nat.two_pow_pos i
  have h := Nat.mod_pow_succ (x := v) (b := 2) (k := i)
  rw [Bool.eq_iff_iff]
  simp only [Bool.or_eq_true, decide_eq_true_eq]
  rcases Nat.mod_two_eq_zero_or_one (v / 2 ^ i) with h0 | h0
  · rw [h0] at h ⊢; rw [h]; omega
  · rw [h0] at h ⊢; rw [h]; simp

theorem walk (a0 : Option Addr) (len0 cap0 : Nat) (z0 : List Int) (a1 : Int) (a2 : Int) (w : World) (w0 : IsRow .u8 w a0 len0 cap0 z0) (w1 : (Lit.int .u16 a1).wf = true) (w2 : (Lit.int .u32 a2).wf = true) :
    Calls Try.prog 4 #[.slice a0 len0 cap0, .int .u16 a1, .int .u32 a2] w fun e w' => e = .returned (.bool true) ∧ Below w.heap.size w w' := by
  obtain ⟨p, hp1, hp2, hp3, RP, hpn⟩ := bytes_of w0
  have k1 := bounds_u16 w1
  have k2 := bounds_u32 w2
  clear w0 w1 w2
  unfold maxLen at hp2
  subst hp1
  obtain ⟨at_, rfl⟩ := Int.eq_ofNat_of_zero_le k1.1
  obtain ⟨turn, rfl⟩ := Int.eq_ofNat_of_zero_le k2.1
  by_cases g1 : p.length = 0
  · have g1' : ((p.length : Int) == 0) = true := by simp; exact List.eq_nil_of_length_eq_zero g1
    generalize p.length = m at *
    go_enter Try.func4, Try.ntmps4
    go_wp2_with fail
    refine (awake_any _).mono ?_
    rintro e w1 ⟨rfl, h1⟩
    go_wp2_with fail
    refine (awake_any _).mono ?_
    rintro e w2 ⟨rfl, h2⟩
    go_wp2_with fail
    go_ret
    exact ⟨rfl, h1.trans (h2.mono h1.size)⟩
  by_cases g2 : 200 < p.length
  · have g1' : ((p.length : Int) == 0) = false := by simp; intro h; rw [h] at g1; exact g1 rfl
    have g2' : (200 : Int) < p.length := by omega
    generalize p.length = m at *
    go_enter Try.func4, Try.ntmps4
    go_wp2_with fail
    refine (awake_any _).mono ?_
    rintro e w1 ⟨rfl, h1⟩
    go_wp2_with fail
    refine (awake_any _).mono ?_
    rintro e w2 ⟨rfl, h2⟩
    go_wp2_with fail
    go_ret
    exact ⟨rfl, h1.trans (h2.mono h1.size)⟩
  by_cases g3 : turn = 0
  · have g1' : ((p.length : Int) == 0) = false := by simp; intro h; rw [h] at g1; exact g1 rfl
    have g2' : ¬ (200 : Int) < p.length := by omega
    subst g3
    generalize p.length = m at *
    go_enter Try.func4, Try.ntmps4
    go_wp2_with fail
    refine (awake_any _).mono ?_
    rintro e w1 ⟨rfl, h1⟩
    go_wp2_with fail
    refine (awake_any _).mono ?_
    rintro e w2 ⟨rfl, h2⟩
    go_wp2_with fail
    go_ret
    exact ⟨rfl, h1.trans (h2.mono h1.size)⟩
  have g1' : ((p.length : Int) == 0) = false := by simp; intro h; rw [h] at g1; exact g1 rfl
  have g2' : ¬ (200 : Int) < p.length := by omega
  have g3' : ((turn : Int) == 0) = false := by simp; omega
  obtain ⟨m, hm⟩ : ∃ m, m = p.length := ⟨_, rfl⟩
  rw [← hm] at g1 g1' g2 g2' hp3 ⊢
  have HM := Lib.hid hm
  clear hm hp2
  have hm1 : 1 ≤ m := by omega
  obtain ⟨kk, hk0⟩ : ∃ kk, kk = at_ % (8 * m) := ⟨_, rfl⟩
  have hkl : kk < 8 * m := by rw [hk0]; exact Nat.mod_lt _ (by omega)
  have hkk : ((at_ : Int) % (8 * (m : Int))) = (kk : Int) := by rw [hk0]; simp
  clear hk0
  go_enter Try.func4, Try.ntmps4
  go_wp2_with fail
  refine (awake_any _).mono ?_
  rintro e wa ⟨rfl, ha⟩
  have hsz := ha.size
  have RP1 : Rd wa w.heap.size a0 p := RP.below ha (Nat.le_refl _)
  have hlen1 : ([] : List UInt8).length + p.length ≤ 1000000 := by have := HM.out; simp; omega
  have O0 := Own.nil wa wa.heap.size
  go_wp2_with (first | (at_builtin; with_reducible refine app_any rfl (.const (.slice none 0 0)) (.tmp 28) rfl wa.heap.size (.slice none 0 0) [] p a0 m cap0 w.heap.size rfl rfl O0 RP1 HM.out hpn hlen1 (Nat.le_refl _) w.heap.size w ha hsz ?_; intro v1 w2 O1 B1 G1))
  rw [List.nil_append] at O1
  obtain ⟨g, cap, rfl, hBg, hcap⟩ := Own.head O1 (by have := HM.out; omega)
  rw [← HM.out] at O1 hcap ⊢
  rw [hkk]
  clear hkk
  go_loopw [9, 10] (fun b i wr => ∃ j : Nat, j ≤ 32 ∧ kk + j ≤ 8 * m ∧ i = .int .i64 j ∧ Below w.heap.size w wr ∧ ∃ Q : List UInt8, m = Q.length ∧ Own wr wa.heap.size (.slice (some ⟨g, 0, none⟩) m cap) Q ∧ Turned p Q kk j turn ∧ b = .bool (decide (turn % 2 ^ j ≠ 0))) (fun _ i _ => 32 - (intOf i).toNat)
  case atStart => exact ⟨0, by omega, by omega, rfl, B1, p, HM.out, O1, Turned.start _ _ _, by simp [Nat.mod_one]⟩
  case round =>
    obtain ⟨j, hj1, hj2, rfl, B, Q, hQ, O, T, rfl⟩ := hrel
    clear O1 B1
    by_cases hlt : j < 32 ∧ kk + j < 8 * m
    · obtain ⟨hlt1, hlt2⟩ := hlt
      have hlt1' : (j : Int) < 32 := by omega
      have hlt2' : (kk : Int) + j < 8 * (m : Int) := by omega
      have hz : ((turn : Int) / 2 ^ j) = ((turn / 2 ^ j : Nat) : Int) := by simp
      have hzl : turn / 2 ^ j < 4294967296 := Nat.lt_of_le_of_lt (Nat.div_le_self _ _) (by omega)
      have hst := some_step turn j
      by_cases he : turn / 2 ^ j % 2 = 1
      · have hc : (kk + j) / 8 < Q.length := by omega
        have T' := T.turn he hc
        have hne : (((turn / 2 ^ j : Nat) : Int) % 2 == 1) = true := by simp; omega
        have hb : decide (turn % 2 ^ (j + 1) ≠ 0) = true := by rw [hst]; simp [he]
        have HB := Lib.hid hb
        have hcell : wr.drew.cell? ⟨g, (kk + j) / 8, none⟩ = some (.int .u8 ((Q[(kk + j) / 8]).toNat : Int)) := Own.at_ O hQ _ hc
        have hfz : wr.drew.frozen? ⟨g, (kk + j) / 8, none⟩ = false := Own.ice O hQ _
        have hbl : (Q[(kk + j) / 8]).toNat < 256 := UInt8.toNat_lt _
        have h2l : 2 ^ ((kk + j) % 8) < 256 := Nat.lt_of_lt_of_le (Nat.pow_lt_pow_right (by decide) (Nat.mod_lt _ (by decide))) (by decide)
        have hxl : (Q[(kk + j) / 8]).toNat ^^^ 2 ^ ((kk + j) % 8) < 256 := Nat.xor_lt_two_pow (n := 8) hbl h2l
        have hxr := u8_xor_nat _ _ hbl h2l
        have O' := Own.set_ (w := wr.drew) (show Own wr.drew _ _ _ from O) hQ ((kk + j) / 8) (UInt8.ofNat ((Q[(kk + j) / 8]).toNat ^^^ 2 ^ ((kk + j) % 8)))
        have eb : b8 (UInt8.ofNat ((Q[(kk + j) / 8]).toNat ^^^ 2 ^ ((kk + j) % 8))) = .int .u8 (((Q[(kk + j) / 8]).toNat ^^^ 2 ^ ((kk + j) % 8) : Nat) : Int) := by
          unfold b8; rw [UInt8.toNat_ofNat', Nat.mod_eq_of_lt hxl]
        rw [eb] at O'
        have hQ' : m = (Q.set ((kk + j) / 8) (UInt8.ofNat ((Q[(kk + j) / 8]).toNat ^^^ 2 ^ ((kk + j) % 8)))).length := by rw [List.length_set]; exact hQ
        have HQ := Lib.hid hQ'
        have hcm : (kk + j) / 8 < m := by rw [hQ]; exact hc
        clear T hst hb hQ he eb O hQ' hxl
        generalize Q.set ((kk + j) / 8) (UInt8.ofNat ((Q[(kk + j) / 8]).toNat ^^^ 2 ^ ((kk + j) % 8))) = Q' at *
        generalize (Q[(kk + j) / 8]).toNat ^^^ 2 ^ ((kk + j) % 8) = y at *
        generalize (Q[(kk + j) / 8]).toNat = x at *
        have B' := B.drew.setCell (p := ⟨g, (kk + j) / 8, none⟩) (by show w.heap.size ≤ g; omega) (.int .u8 (y : Nat))
        generalize turn / 2 ^ j = z at *
        generalize decide (turn % 2 ^ j ≠ 0) = b at *
        have e1 : IntKind.i64.wrap ((kk : Int) + j) = ((kk + j : Nat) : Int) := by rw [IntKind.wrap_i64]; omega
        have e2 : ((kk + j : Nat) : Int).tdiv 8 = (((kk + j) / 8 : Nat) : Int) := by rw [Int.tdiv_eq_ediv_of_nonneg (by omega)]; omega
        have e3 : ((kk + j : Nat) : Int).tmod 8 = (((kk + j) % 8 : Nat) : Int) := by rw [Int.tmod_eq_emod_of_nonneg (by omega)]; omega
        have e4 : IntKind.i64.wrap (((kk + j) / 8 : Nat) : Int) = (((kk + j) / 8 : Nat) : Int) := by rw [IntKind.wrap_i64]; omega
        have e5 : (2 : Int) ^ ((kk + j) % 8) = ((2 ^ ((kk + j) % 8) : Nat) : Int) := by simp
        have e6' : ∀ x : Nat, x < 256 → IntKind.u8.wrap (x : Int) = (x : Int) := fun x hx => by rw [IntKind.wrap_u8']; omega
        have e6 := e6' _ h2l
        clear e6'
        have e7 : (0 : Int) ≤ (((kk + j) / 8 : Nat) : Int) ∧ (((kk + j) / 8 : Nat) : Int) < m := by omega
        have e8 : ((kk + j) % 8 : Nat) < 8 := Nat.mod_lt _ (by decide)
        have e9 : (0 : Int) ≤ (((kk + j) % 8 : Nat) : Int) ∧ (((kk + j) % 8 : Nat) : Int) < 8 := by omega
        generalize 2 ^ ((kk + j) % 8) = pw at *
        generalize (kk + j) / 8 = c at *
        generalize (kk + j) % 8 = t at *
        obtain ⟨s0, hs0⟩ : ∃ s0, s0 = kk + j := ⟨_, rfl⟩
        rw [← hs0] at e1 e2 e3
        have hlt3 : (s0 : Int) < 8 * (m : Int) := by omega
        clear hs0
        go_wp2_with fail
        refine wp_region_still_tail 14 (by kernel_rfl) (by kernel_rfl) ?_
        simp only [List.take_succ_cons, List.take_zero, List.drop_succ_cons, List.drop_zero]
        change wpStill _ _ wr.drew (fun a' => wpList _ _ _ _ a' wr.drew) _ _
        generalize wr.drew = wd at *
        repeat still_step
        refine wpStill_nil ?_
        go_wp2_with fail
        go_roundw
        case rel => first | exact ⟨j + 1, by omega, by omega, by go_num, B', Q', HQ.out, O', T', by rw [HB.out]⟩ | ((repeat apply Exists.intro); exact ⟨⟨j + 1, by omega, by omega, by go_num, B', Q', HQ.out, O', T', by rw [HB.out]⟩, rfl⟩)
        case measure => simp [intOf]; omega
      · have T' := T.same (by omega)
        have hne : (((turn / 2 ^ j : Nat) : Int) % 2 == 1) = false := by simp; omega
        have hb : decide (turn % 2 ^ (j + 1) ≠ 0) = decide (turn % 2 ^ j ≠ 0) := by rw [hst]; simp [he]
        have HB := Lib.hid hb
        have HQ := Lib.hid hQ
        clear T hst hb hQ he
        generalize turn / 2 ^ j = z at *
        generalize decide (turn % 2 ^ j ≠ 0) = b at *
        go_wp2_with fail
        go_roundw
        case rel => exact ⟨j + 1, by omega, by omega, by go_num, B, Q, HQ.out, O, T', by rw [HB.out]⟩
        case measure => simp [intOf]; omega
    · have hfin := T.sums hj1 (by rw [← HM.out]; exact hj2)
      obtain ⟨A, c, hv, RA, _, _⟩ := O.form
      injection hv with hv1 hv2 hv3
      subst hv1 hv3
      have hQ6 : Q.length ≤ 1000000 := by omega
      have hp6 : p.length ≤ 1000000 := by rw [← HM.out]; omega
      have c1 := sum_any (some ⟨g, 0, none⟩) cap Q wr hQ6 RA
      have c2 : ∀ W, Below w.heap.size w W → Calls Try.prog 7 #[.slice a0 m cap0] W (MoreSaid W (more 0 p)) := fun W h => by rw [HM.out]; exact sum_any a0 cap0 p W hp6 ((RP.below h (Nat.le_refl _)).more h.size)
      rw [← hQ] at c1
      have hcond : (¬ (j : Int) < 32) ∨ ((j : Int) < 32 ∧ ¬ (kk : Int) + j < 8 * (m : Int)) := by omega
      have HQ := Lib.hid hQ
      clear hQ hv2 T RA O hlt hQ6
      generalize decide (turn % 2 ^ j ≠ 0) = b at *
      generalize more 0 Q = U at *
      generalize more 0 p = V at *
      have C2 : Hid (∀ W, Below w.heap.size w W → Calls Try.prog 7 #[.slice a0 m cap0] W (MoreSaid W V)) := c2
      have HF := Lib.hid hfin
      clear c2 hfin
      rcases hcond with h32 | ⟨h32, h8⟩
      all_goals
        go_wp2_with fail
        refine c1.mono ?_
        rintro e w3 ⟨rfl, D3⟩
        have B3 := B.trans (D3.mono B.size)
        go_wp2_with fail
        refine (C2.out w3 B3).mono ?_
        rintro e w4 ⟨rfl, D4⟩
        have B4 := B3.trans (D4.mono B3.size)
        have hfin := HF.out
        go_wp2_with fail
        go_ret
        exact ⟨rfl, B4⟩

set_option maxRecDepth 100000 in
theorem lifted (os : Os) (started : os.Started) (H : Type) (enc : TypeId × Value → H) :
    ReturnsInHanded {} Try.checked os 4 .any (Rows.tallyTurnsSpec.pre6 enc Try.prog Try.f4 Rows.tallyTurnsRow.domain false) (Rows.tallyTurnsSpec.post enc Try.prog Try.f4 false true false false) := by
  refine returnsInHanded_of_change (C := Try.checked) own started (by kernel_rfl) Try.func4
    (ChangeSpec.witness6 (enc := enc) (C := Try.checked) false ⟨#[], #[.slice none 0 0, .int .u16 0, .int .u32 0], []⟩ 8 (by kernel_rfl) (by kernel_rfl) (by kernel_rfl) (by kernel_rfl)) ?_
  intro W base args ds gs before hval0 hW hcnd _
  have hval : ∀ (j : Nat) t v, Try.f4.params[j]? = some t → args[j]? = some v → Value.okWide Try.prog W .any base t v := hval0
  have hW' := hW
  obtain ⟨p, q, hA0, hV, rfl, hfz, hnd⟩ := hW
  have hA : DataW.TrodAll enc Try.prog W 0 (fun _ => true) true Try.f4.params.toList args.toList ds p := hA0
  rw [Try.params4] at hA hval
  obtain ⟨v0, vs0, d0, ds0, p0, q0, hargs, rfl, rfl, h0, r0⟩ := trodAll_cons hA
  obtain ⟨v1, vs1, d1, ds1, p1, q1, rfl, rfl, rfl, h1, r1⟩ := trodAll_cons r0
  obtain ⟨v2, vs2, d2, ds2, p2, q2, rfl, rfl, rfl, h2, r2⟩ := trodAll_cons r1
  obtain ⟨rfl, rfl, rfl⟩ := trodAll_nil r2
  obtain rfl : args = #[v0, v1, v2] := by cases args; simp_all
  obtain ⟨rfl, rfl⟩ := trodVars_none hV
  obtain ⟨a0, len0, cap0, rfl⟩ := okWide_slice Try.underlying22 (hval 0 22 v0 rfl rfl)
  have k0 := h0
  have lt0 : ∀ x ∈ p0, x.block < W.heap.size := by obtain ⟨m, hm⟩ := k0; exact DataW.trod_lt m _ _ _ hm
  obtain ⟨z0, w0⟩ : ∃ zs, IsRow .u8 W a0 len0 cap0 zs := by
    obtain ⟨fuel, hf⟩ := h0
    rcases open_ints Try.underlying22 Try.underlying5 (by kernel_rfl) hf with ⟨hcs, _⟩ | ⟨x, l, c, zs, hcs, _, hl, hm, hz, _, hcell, hwz⟩
    · simp [Value.cells] at hcs
      obtain ⟨rfl, rfl, rfl⟩ := hcs
      exact ⟨[], .inl ⟨rfl, rfl, rfl, rfl⟩⟩
    · simp [Value.cells] at hcs
      obtain ⟨rfl, rfl, rfl⟩ := hcs
      exact ⟨zs, .inr ⟨_, rfl, hl, hm, by simpa using hz, hcell, hwz⟩⟩
  obtain ⟨a1, rfl, rfl, rfl, w1⟩ := open_int Try.underlying28 (hval 1 28 v1 rfl rfl) h1
  obtain ⟨a2, rfl, rfl, rfl, w2⟩ := open_int Try.underlying24 (hval 2 24 v2 rfl rfl) h2
  clear hA0 hval0
  refine (walk a0 len0 cap0 z0 a1 a2 W w0 w1 w2).mono fun e W' ⟨he, bel⟩ => ?_
  subst he
  exact ⟨_, rfl, _, _, _, [], _, [], hW', trodAll_mk1 (shut_bool Try.underlying4 _), (trodAll_cons_mk (Below.trod laidOut (by kernel_rfl) (of_decide_eq_true (by kernel_rfl)) k0 bel lt0) (trodAll_cons_mk (shut_int Try.underlying28 w1) (trodAll_cons_mk (shut_int Try.underlying24 w2) trodAll_mk0))), rfl, bel.frame _, fun h => by cases h⟩

theorem over : Rows.tallyTurnsRow.holds Try.pinned (OpenSpec.ofChange Rows.tallyTurnsSpec) :=
  OpenClaim.holds_of_wide 4 Try.f4 rfl rfl rfl rfl rfl rfl rfl ⟨rfl, rfl, rfl, rfl, rfl⟩ rfl rfl rfl rfl rfl (by kernel_rfl) Try.func4 (by kernel_rfl)
    (of_decide_eq_true (by kernel_rfl)) (by unfold Func.isWrapper; first | (rw [if_pos (by decide +kernel)]; kernel_rfl) | (rw [if_neg (by decide +kernel)]; exact ⟨rfl, rfl⟩))
    (fun os started H enc _ => lifted os started H enc)

theorem proved : Rows.TallyTurnsSaid := over
#print axioms proved
end Go.Proofs.Ytpmjkniohnhkbaa.tallyTurns
