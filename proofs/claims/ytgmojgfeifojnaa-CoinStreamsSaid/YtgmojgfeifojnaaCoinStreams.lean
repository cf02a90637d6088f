/-
  'For every input the Go function milestonelaw03.CoinStreams returns true, and each argument reads behind the call as it read before.'
  Conditions: none but the row's own (linux/amd64, sizes of what is read within the address space).
-/
import Derived.Test.YtgmojgfeifojnaaRows
import Derived.WalkKit
import Derived.ProofKit
import Derived.OpenShut
import Derived.ShutString
import Derived.ChangeOld
import Derived.Below
import Derived.Lib.SmallJoins
import Derived.Lib.Hide
import Derived.Test.YtgmojgfeifojnaaByt
namespace Go.Proofs.Ytgmojgfeifojnaa.coinStreams
open Go.Proofs.Ytgmojgfeifojnaa.Coin
open Go.ChangeShapes Go.WideShapes Go.ChangeAt Go.RowKit
open Go.ChangeMaps (open_string shut_string)
set_option linter.unusedVariables false

theorem own : ownKnob Try.prog.godebug = none := by kernel_rfl
theorem laidOut : laidOutB Try.prog = true := by kernel_rfl

/-- What the walk is told of a slice of integers that came in. -/
def IsRow (k : IntKind) (w : World) (a : Option Addr) (len cap : Nat) (zs : List Int) : Prop :=
  (a = none ∧ len = 0 ∧ cap = 0 ∧ zs = []) ∨
  ∃ x, a = some x ∧ len ≤ cap ∧ cap ≤ maxLen ∧ zs.length = cap ∧ (∀ i, i < zs.length → w.cell? (x.add i) = some (.int k (zs.getD i 0))) ∧ ∀ n ∈ zs, (Lit.int k n).wf = true

/-- Numbers, one behind the other, as bytes. -/
def coins (l : List Nat) : List UInt8 := l.flatMap coin
theorem coins_snoc (ns : List Nat) (k : Nat) (hk : k < ns.length) : coins (ns.take (k + 1)) = coins (ns.take k) ++ coin ns[k] := by
  rw [List.take_succ_eq_append_getElem hk]; unfold coins; rw [List.flatMap_append]; simp only [List.flatMap_cons, List.flatMap_nil, List.append_nil]
theorem coins_cons (ns : List Nat) (k : Nat) (hk : k < ns.length) : coins (ns.drop k) = coin ns[k] ++ coins (ns.drop (k + 1)) := by
  rw [List.drop_eq_getElem_cons hk]; unfold coins; rw [List.flatMap_cons]
theorem coins_le (ns : List Nat) : (coins ns).length ≤ 9 * ns.length := by
  induction ns with
  | nil => simp [coins]
  | cons n ns ih =>
    have := (sz_le n).2
    have h : coins (n :: ns) = coin n ++ coins ns := by simp [coins]
    rw [h, List.length_append, length_coin, List.length_cons]; omega
theorem take_coin (n most : Nat) (r : List UInt8) (hn : n < 18446744073709551616) (hm : n ≤ most) : takeV (coin n ++ r) 0 most = (n, r, 0) := by
  unfold takeV
  rw [got_coin n hn r]
  simp only [ne_eq, not_true_eq_false, if_false]
  rw [if_neg (by omega), List.drop_append_of_le_length (by rw [length_coin]; exact Nat.le_refl _), List.drop_of_length_le (by rw [length_coin]; exact Nat.le_refl _)]
  rfl
theorem nums_of {w : World} {a : Option Addr} {len cap : Nat} {z : List Int} (h : IsRow .u64 w a len cap z) : ∃ ns : List Nat, ns.length = len ∧ len ≤ maxLen ∧ ∀ j (hj : j < ns.length), ns[j] < 18446744073709551616 ∧ ∃ ad : Addr, a = some ad ∧ ad.block < w.heap.size ∧ w.cell? (ad.add j) = some (.int .u64 (ns[j] : Nat)) := by
  rcases h with ⟨rfl, rfl, rfl, rfl⟩ | ⟨x, rfl, h1, h2, h3, h4, h5⟩
  · exact ⟨[], rfl, by unfold maxLen; omega, fun j hj => by simp at hj⟩
  · refine ⟨(z.take len).map Int.toNat, by simp; omega, by omega, fun j hj => ?_⟩
    simp at hj
    have hz : z[j] ∈ z := List.getElem_mem _
    have hb := bounds_u64 (h5 _ hz)
    have hc := h4 j (by omega)
    have e : z.getD j 0 = z[j] := by rw [List.getD_eq_getElem?_getD, List.getElem?_eq_getElem]; rfl
    rw [e] at hc
    have ez : ((z[j].toNat : Nat) : Int) = z[j] := by omega
    refine ⟨by simp; omega, x, rfl, ?_, ?_⟩
    · have := block_lt_of_cell hc
      rwa [Coin.block_add] at this
    · rw [hc]; simp [ez]

theorem walk (a0 : Option Addr) (len0 cap0 : Nat) (z0 : List Int) (w : World) (w0 : IsRow .u64 w a0 len0 cap0 z0) :
    Calls Try.prog 8 #[.slice a0 len0 cap0] w fun e w' => e = .returned (.bool true) ∧ Below w.heap.size w w' := by
  obtain ⟨ns, hl, hm, hn⟩ := nums_of w0
  clear w0
  unfold maxLen at hm
  by_cases h60 : 60 < len0
  · clear hn
    go_enter Try.func8, Try.ntmps8
    go_wp2_with fail
    refine (awake_any _).mono ?_
    rintro e w1 ⟨rfl, hb⟩
    go_wp2_with fail
    refine (awake_any _).mono ?_
    rintro e w2 ⟨rfl, hb2⟩
    go_wp2
    go_ret
    exact ⟨rfl, hb.trans (hb2.mono hb.size)⟩
  · have HN : Hid (∀ j (hj : j < ns.length), ns[j] < 18446744073709551616 ∧ ∃ ad : Addr, a0 = some ad ∧ ad.block < w.heap.size ∧ w.cell? (ad.add j) = some (.int .u64 (ns[j] : Nat))) := hn
    clear hn
    have HL := Lib.hid hl
    clear hl
    have h60' : len0 ≤ 60 := by omega
    go_enter Try.func8, Try.ntmps8
    go_wp2_with (go_at_call 9; refine (awake_any _).mono ?_; rintro e w' ⟨rfl, hb⟩)
    go_loopw [3, 4, 5] (fun v s i wr => ∃ k : Nat, k ≤ len0 ∧ i = .int .i64 k ∧ s = .int .i64 (coins (ns.take k)).length ∧ Below w.heap.size w wr ∧ ∃ A c, v = .slice A (coins (ns.take k)).length c ∧ Rd wr wr.heap.size A (coins (ns.take k))) (fun _ _ i _ => len0 - (intOf i).toNat)
    case atStart => exact ⟨0, by omega, rfl, rfl, hb, none, 0, rfl, Rd.nil _ _ _⟩
    case round =>
      obtain ⟨k, hk, rfl, rfl, B, A, c, rfl, R⟩ := hrel
      by_cases hlt : k < len0
      · have hk' : k < ns.length := by rw [HL.out]; exact hlt
        obtain ⟨hnk, ad, rfl, hab, hc⟩ := HN.out k hk'
        have hcr : wr.cell? (ad.add k) = some (.int .u64 (ns[k] : Nat)) := (B.cell (by rw [Coin.block_add]; exact hab)).trans hc
        have hsn := Lib.hid (coins_snoc ns k hk')
        have hle := coins_le (ns.take k)
        have hlen : (ns.take k).length = k := by simp; omega
        generalize coins (ns.take k) = X at *
        have hX : X.length ≤ 900000 := by omega
        clear hc hle hlen
        have hs9 := sz_le ns[k]
        have cp := put_any A c X ns[k] wr hnk hX R
        have hlc : (coin ns[k]).length = sz ns[k] := length_coin _
        have HLC := Lib.hid hlc
        clear hlc
        generalize coin ns[k] = Y at *
        have cs := fun W => size_any ns[k] hnk W
        have HS : Hid (sz ns[k] ≤ 9) := hs9.2
        generalize sz ns[k] = S at *
        generalize ns[k] = n at *
        have hS9 : S ≤ 9 := HS.out
        clear R
        go_wp2_with fail
        refine cp.mono ?_
        rintro e w2 ⟨rfl, R2, B2⟩
        have B3 := B.trans (B2.mono B.size)
        have hcr0 := Lib.hid hcr
        clear cp hcr
        have hcr : w2.cell? (ad.add k) = some (.int .u64 (n : Nat)) := (B2.cell (by rw [Coin.block_add]; exact Nat.lt_of_lt_of_le hab B.size)).trans hcr0.out
        go_wp2_with (go_at_call 13; refine (cs _).mono ?_; rintro e w' ⟨rfl, rfl⟩)
        go_roundw
        case rel =>
          have e : (X ++ Y).length = X.length + S := by rw [List.length_append, HLC.out]
          refine ⟨k + 1, by omega, by go_num, ?_, B3, some ⟨wr.heap.size, 0, none⟩, X.length + S, ?_, ?_⟩
          · rw [hsn.out, e]; go_num
          · rw [hsn.out, e]
          · rw [hsn.out]; exact R2.rd
        case measure => simp [intOf]; omega
      · obtain rfl : k = len0 := by omega
        have hle := coins_le (ns.take k)
        have hall : ns.take k = ns := List.take_of_length_le (by rw [HL.out]; exact Nat.le_refl _)
        rw [hall] at R hle ⊢
        have hd0 := Lib.hid (show coins ns = coins (ns.drop 0) by simp)
        have hX : (coins ns).length ≤ 900000 := by have := HL.out; omega
        clear hall hle
        generalize coins ns = X at *
        have cn := new_any A c X wr hX R
        clear R
        go_wp2_with fail
        refine cn.mono ?_
        rintro e w2 ⟨q, rfl, P, hq1, hq2, B2⟩
        have B3 := B.trans (B2.mono B.size)
        have hqw : w.heap.size ≤ q := Nat.le_trans B.size hq1
        rw [hd0.out] at P
        clear cn B B2 hq1 hq2
        go_wp2_with fail
        go_loopw [7] (fun i wr => ∃ j : Nat, j ≤ k ∧ i = .int .i64 j ∧ Below w.heap.size w wr ∧ Pur wr q (coins (ns.drop j)) 0) (fun i _ => k - (intOf i).toNat)
        case atStart => exact ⟨0, by omega, rfl, B3, P⟩
        case round =>
          clear B3 P
          obtain ⟨j, hj, rfl, B, P⟩ := hrel
          by_cases hlt : j < k
          · have hk' : j < ns.length := by rw [HL.out]; exact hlt
            obtain ⟨hnk, ad, rfl, hab, hc⟩ := HN.out j hk'
            rw [coins_cons ns j hk'] at P
            have htv := take_coin ns[j] 18446744073709551615 (coins (ns.drop (j + 1))) hnk (by omega)
            have ct := fun W (hW : Pur W q (coin ns[j] ++ coins (ns.drop (j + 1))) 0) => take_any W q _ 0 18446744073709551615 hW (by omega) (by omega)
            rw [htv] at ct
            simp only at ct
            have CT : Hid (∀ W, Pur W q (coin ns[j] ++ coins (ns.drop (j + 1))) 0 → Calls Try.prog 19 #[.pointer (some ⟨q, 0, none⟩), .int .u64 18446744073709551615] W fun e w' => e = .returned (.int .u64 (ns[j] : Nat)) ∧ Pur w' q (coins (ns.drop (j + 1))) 0 ∧ W.grownBy w' (some q)) := ct
            clear ct htv
            have hcr : wr.cell? (ad.add j) = some (.int .u64 (ns[j] : Nat)) := (B.cell (by rw [Coin.block_add]; exact hab)).trans hc
            clear hc
            generalize coin ns[j] ++ coins (ns.drop (j + 1)) = Y at *
            obtain ⟨X, hX⟩ : ∃ X, X = coins (ns.drop (j + 1)) := ⟨_, rfl⟩
            rw [← hX] at CT
            have HX := Lib.hid hX
            clear hX
            generalize ns[j] = n at *
            have HC := Lib.hid hcr
            have hne : some (ad.add j).block ≠ some q := by rw [Coin.block_add]; intro e; injection e with e; omega
            have P' : Pur wr.drew q Y 0 := P
            have B' := B.drew
            go_wp2_with fail
            go_region_with (go_at_call 19; refine (CT.out _ P').mono ?_; rintro e w' ⟨rfl, P2, G2⟩; have hc2 : w'.cell? (ad.add j) = some (.int .u64 (n : Nat)) := World.grownBy.cell G2 HC.out hne)
            all_goals
              have B2 := B'.grown G2 B.size (fun k h => by injection h with h; omega)
              go_wp2_with fail
              go_roundw
              case rel => exact ⟨j + 1, by omega, by go_num, B2, by rw [← HX.out]; exact P2⟩
              case measure => simp [intOf]; omega
          · obtain rfl : j = k := by omega
            have e : ns.drop j = [] := List.drop_eq_nil_of_le (by rw [HL.out]; exact Nat.le_refl _)
            rw [e] at P
            have ce := end_any wr q _ 0 P
            have e2 : endV (coins []) 0 = 0 := rfl
            rw [e2] at ce
            clear e e2 P
            go_wp2_with (go_at_call 22; refine ce.mono ?_; rintro e w' ⟨rfl, rfl⟩)
            go_ret
            exact ⟨rfl, B⟩

set_option maxRecDepth 100000 in
theorem lifted (os : Os) (started : os.Started) (H : Type) (enc : TypeId × Value → H) :
    ReturnsInHanded {} Try.checked os 8 .any (Rows.coinStreamsSpec.pre6 enc Try.prog Try.f8 Rows.coinStreamsRow.domain false) (Rows.coinStreamsSpec.post enc Try.prog Try.f8 false true false false) := by
  refine returnsInHanded_of_change (C := Try.checked) own started (by kernel_rfl) Try.func8
    (ChangeSpec.witness6 (enc := enc) (C := Try.checked) false ⟨#[], #[.slice none 0 0], []⟩ 8 (by kernel_rfl) (by kernel_rfl) (by kernel_rfl) (by kernel_rfl)) ?_
  intro W base args ds gs before hval0 hW hcnd _
  have hval : ∀ (j : Nat) t v, Try.f8.params[j]? = some t → args[j]? = some v → Value.okWide Try.prog W .any base t v := hval0
  have hW' := hW
  obtain ⟨p, q, hA0, hV, rfl, hfz, hnd⟩ := hW
  have hA : DataW.TrodAll enc Try.prog W 0 (fun _ => true) true Try.f8.params.toList args.toList ds p := hA0
  rw [Try.params8] at hA hval
  obtain ⟨v0, vs0, d0, ds0, p0, q0, hargs, rfl, rfl, h0, r0⟩ := trodAll_cons hA
  obtain ⟨rfl, rfl, rfl⟩ := trodAll_nil r0
  obtain rfl : args = #[v0] := by cases args; simp_all
  obtain ⟨rfl, rfl⟩ := trodVars_none hV
  obtain ⟨a0, len0, cap0, rfl⟩ := okWide_slice Try.underlying47 (hval 0 47 v0 rfl rfl)
  have k0 := h0
  have lt0 : ∀ x ∈ p0, x.block < W.heap.size := by obtain ⟨m, hm⟩ := k0; exact DataW.trod_lt m _ _ _ hm
  obtain ⟨z0, w0⟩ : ∃ zs, IsRow .u64 W a0 len0 cap0 zs := by
    obtain ⟨fuel, hf⟩ := h0
    rcases open_ints Try.underlying47 Try.underlying22 (by kernel_rfl) hf with ⟨hcs, _⟩ | ⟨x, l, c, zs, hcs, _, hl, hm, hz, _, hcell, hwz⟩
    · simp [Value.cells] at hcs
      obtain ⟨rfl, rfl, rfl⟩ := hcs
      exact ⟨[], .inl ⟨rfl, rfl, rfl, rfl⟩⟩
    · simp [Value.cells] at hcs
      obtain ⟨rfl, rfl, rfl⟩ := hcs
      exact ⟨zs, .inr ⟨_, rfl, hl, hm, by simpa using hz, hcell, hwz⟩⟩
  clear hA0 hval0
  refine (walk a0 len0 cap0 z0 W w0).mono fun e W' ⟨he, bel⟩ => ?_
  subst he
  exact ⟨_, rfl, _, _, _, [], _, [], hW', trodAll_mk1 (shut_bool Try.underlying4 _), (trodAll_cons_mk (Below.trod laidOut (by kernel_rfl) (of_decide_eq_true (by kernel_rfl)) k0 bel lt0) trodAll_mk0), rfl, bel.frame _, fun h => by cases h⟩

theorem over : Rows.coinStreamsRow.holds Try.pinned (OpenSpec.ofChange Rows.coinStreamsSpec) :=
  OpenClaim.holds_of_wide 8 Try.f8 rfl rfl rfl rfl rfl rfl rfl ⟨rfl, rfl, rfl, rfl, rfl⟩ rfl rfl rfl rfl rfl (by kernel_rfl) Try.func8 (by kernel_rfl)
    (of_decide_eq_true (by kernel_rfl)) (by unfold Func.isWrapper; first | (rw [if_pos (by decide +kernel)]; kernel_rfl) | (rw [if_neg (by decide +kernel)]; exact ⟨rfl, rfl⟩))
    (fun os started H enc _ => lifted os started H enc)

theorem proved : Rows.CoinStreamsSaid := over
#print axioms proved
end Go.Proofs.Ytgmojgfeifojnaa.coinStreams
