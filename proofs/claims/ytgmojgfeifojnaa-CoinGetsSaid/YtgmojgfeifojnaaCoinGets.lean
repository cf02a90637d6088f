/-
  'For every input the Go function milestonelaw03.CoinGets returns true, and each argument reads behind the call as it read before.'
  Conditions: none but the row's own (linux/amd64, sizes of what is read within the address space).
-/
import Derived.Test.YtgmojgfeifojnaaRows
import Derived.WalkKit
import Derived.ProofKit
import Derived.OpenShut
import Derived.ShutString
import Derived.ChangeOld
import Derived.Below
import Derived.Lib.SmallJoins
import Derived.Lib.Hide
import Derived.Test.YtgmojgfeifojnaaRta
namespace Go.Proofs.Ytgmojgfeifojnaa.coinGets
open Go.Proofs.Ytgmojgfeifojnaa.Coin
open Go.ChangeShapes Go.WideShapes Go.ChangeAt Go.RowKit
open Go.ChangeMaps (open_string shut_string)
set_option linter.unusedVariables false

theorem own : ownKnob Try.prog.godebug = none := by kernel_rfl
theorem laidOut : laidOutB Try.prog = true := by kernel_rfl

/-- What the walk is told of a slice of integers that came in. -/
def IsRow (k : IntKind) (w : World) (a : Option Addr) (len cap : Nat) (zs : List Int) : Prop :=
  (a = none ∧ len = 0 ∧ cap = 0 ∧ zs = []) ∨
  ∃ x, a = some x ∧ len ≤ cap ∧ cap ≤ maxLen ∧ zs.length = cap ∧ (∀ i, i < zs.length → w.cell? (x.add i) = some (.int k (zs.getD i 0))) ∧ ∀ n ∈ zs, (Lit.int k n).wf = true

theorem bytes_of {w : World} {a : Option Addr} {len cap : Nat} {z : List Int} (h : IsRow .u8 w a len cap z) : ∃ l : List UInt8, len = l.length ∧ len ≤ maxLen ∧ len ≤ cap ∧ Rd w w.heap.size a l ∧ (a = none → cap = 0) := by
  rcases h with ⟨rfl, rfl, rfl, rfl⟩ | ⟨x, rfl, h1, h2, h3, h4, h5⟩
  · exact ⟨[], rfl, by unfold maxLen; omega, Nat.le_refl _, Rd.nil _ _ _, fun _ => rfl⟩
  · refine ⟨(z.take len).map fun n => UInt8.ofNat n.toNat, by simp; omega, by omega, h1, fun h0 => ⟨x, rfl, ?_, fun j hj => ?_⟩, fun h => by cases h⟩
    · have hc := h4 0 (by simp at h0; omega)
      have := block_lt_of_cell hc
      rwa [Coin.block_add] at this
    · simp at hj
      have hz : z[j] ∈ z := List.getElem_mem _
      have hb := bounds_u8 (h5 _ hz)
      have hc := h4 j (by omega)
      have e : z.getD j 0 = z[j] := by rw [List.getD_eq_getElem?_getD, List.getElem?_eq_getElem]; rfl
      rw [e] at hc
      rw [hc]
      simp only [List.getElem_map, List.getElem_take, b8]
      congr 2
      simp; omega

theorem walk (a0 : Option Addr) (len0 cap0 : Nat) (z0 : List Int) (a1 : Int) (w : World) (w0 : IsRow .u8 w a0 len0 cap0 z0) (w1 : (Lit.int .u8 a1).wf = true) :
    Calls Try.prog 4 #[.slice a0 len0 cap0, .int .u8 a1] w fun e w' => e = .returned (.bool true) ∧ Below w.heap.size w w' := by
  obtain ⟨p, hp1, hp2, hp3, RP, hpn⟩ := bytes_of w0
  have k1 := bounds_u8 w1
  clear w0 w1
  unfold maxLen at hp2
  subst hp1
  obtain ⟨o, rfl⟩ := Int.eq_ofNat_of_zero_le k1.1
  by_cases h1 : 50 < p.length
  · have h1' : (50 : Int) < p.length := by omega
    generalize p.length = m at *
    go_enter Try.func4, Try.ntmps4
    go_wp2_with fail
    refine (awake_any _).mono ?_
    rintro e w1 ⟨rfl, h1⟩
    go_wp2_with fail
    refine (awake_any _).mono ?_
    rintro e w2 ⟨rfl, h2⟩
    go_wp2_with fail
    go_ret
    exact ⟨rfl, h1.trans (h2.mono h1.size)⟩
  have h1' : ¬ (50 : Int) < p.length := by omega
  obtain ⟨m, hm⟩ : ∃ m, m = p.length := ⟨_, rfl⟩
  rw [← hm] at h1 h1' hp3 ⊢
  have HM := Lib.hid hm
  clear hm hp2
  go_enter Try.func4, Try.ntmps4
  go_wp2_with fail
  refine (awake_any _).mono ?_
  rintro e wa ⟨rfl, ha⟩
  have hby : (255 * 2 ^ (8 - o % 9) % 256 : Int) = ((255 * 2 ^ (8 - o % 9) % 256 : Nat) : Int) := by simp
  have hbl : 255 * 2 ^ (8 - o % 9) % 256 < 256 := Nat.mod_lt _ (by decide)
  generalize (255 * 2 ^ (8 - o % 9) % 256 : Nat) = bn at *
  have hsz := ha.size
  have O0 : Own (wa.alloc (.cells #[.int .u8 (bn : Int)] 5)) wa.heap.size (.slice (some ⟨wa.heap.size, 0, none⟩) 1 1) [UInt8.ofNat bn] := by
    have h := Own.lit wa wa.heap.size [UInt8.ofNat bn] (Nat.le_refl _) (by simp)
    have e : ([UInt8.ofNat bn].map b8).toArray = #[.int .u8 (bn : Int)] := by simp only [List.map_cons, List.map_nil, b8_small bn hbl]
    rw [e] at h; exact h
  have B0 : Below w.heap.size w (wa.alloc (.cells #[.int .u8 (bn : Int)] 5)) := ha.alloc hsz _
  have RP0 : Rd (wa.alloc (.cells #[.int .u8 (bn : Int)] 5)) w.heap.size a0 p := RP.below B0 (Nat.le_refl _)
  have hlen1 : [UInt8.ofNat bn].length + p.length ≤ 1000000 := by have := HM.out; simp; omega
  have hin : wa.heap.size ≤ (wa.alloc (.cells #[.int .u8 (bn : Int)] 5)).heap.size := by simp
  go_wp2_with (at_builtin; with_reducible refine app_any rfl (.tmp 26) (.tmp 27) rfl wa.heap.size (.slice (some ⟨wa.heap.size, 0, none⟩) 1 1) [UInt8.ofNat bn] p a0 m cap0 w.heap.size rfl rfl O0 RP0 HM.out hpn hlen1 hin w.heap.size w B0 hsz ?_; intro v1 w1 O1 B1 G1; obtain ⟨A1, c1, rfl, R1, hc1, _⟩ := O1.form)
  have hplen : p.length + 1 = ([UInt8.ofNat bn] ++ p).length := by simp
  obtain ⟨k, hk⟩ : ∃ k, k = p.length + 1 := ⟨_, rfl⟩
  have hk2 : k = ([UInt8.ofNat bn] ++ p).length := by rw [hk]; exact hplen
  have hk6 : k ≤ 1000000 := by have := HM.out; omega
  rw [← hk] at *
  rw [← hk2] at hc1
  have HK := Lib.hid hk2
  clear hk hk2 hplen
  generalize [UInt8.ofNat bn] ++ p = X at *
  obtain ⟨O, hO⟩ : ∃ O, O = Obj.cells #[Value.slice a0 m cap0, Value.slice A1 k c1] 23 := ⟨_, rfl⟩
  have H0 : Below (w1.alloc O).heap.size (w1.alloc O) (w1.alloc O) := Below.refl _ _
  have hB2 : Below w.heap.size w (w1.alloc O) := B1.alloc B1.size _
  have hB3 : Below w1.heap.size w1 (w1.alloc O) := (Below.refl _ _).alloc (Nat.le_refl _) _
  have rp : Rd (w1.alloc O) (w1.alloc O).heap.size a0 p := (RP.below hB2 (Nat.le_refl _)).more hB2.size
  have rx : Rd (w1.alloc O) (w1.alloc O).heap.size A1 X := (R1.below hB3 (Nat.le_refl _)).more hB3.size
  have hp6 : p.length ≤ 1000000 := by rw [← HM.out]; omega
  have hX6 : X.length ≤ 1000000 := by rw [← HK.out]; exact hk6
  have CGP : Hid (∀ W, Below (w1.alloc O).heap.size (w1.alloc O) W → Calls Try.prog 11 #[.slice a0 m cap0] W fun e w' => e = .returned (.tuple #[.int .u64 (got p).1, .int .i64 (got p).2.1, .int .i64 (got p).2.2]) ∧ ∃ m, w' = W.drewN m) := fun W h => by rw [HM.out]; exact get_any a0 cap0 _ p W hp6 (rp.below h (Nat.le_refl _))
  have CGX : Hid (∀ W, Below (w1.alloc O).heap.size (w1.alloc O) W → Calls Try.prog 11 #[.slice A1 k c1] W fun e w' => e = .returned (.tuple #[.int .u64 (got X).1, .int .i64 (got X).2.1, .int .i64 (got X).2.2]) ∧ ∃ m, w' = W.drewN m) := fun W h => by rw [HK.out]; exact get_any A1 c1 _ X W hX6 (rx.below h (Nat.le_refl _))
  have CTP : Hid (∀ W, Below (w1.alloc O).heap.size (w1.alloc O) W → Calls Try.prog 14 #[.slice a0 m cap0] W (TakeSaid W p)) := fun W h => by rw [HM.out]; exact rtake_any a0 cap0 (w1.alloc O).heap.size p W hp6 (by rw [← HM.out]; exact hp3) h.size (rp.below h (Nat.le_refl _))
  have CTX : Hid (∀ W, Below (w1.alloc O).heap.size (w1.alloc O) W → Calls Try.prog 14 #[.slice A1 k c1] W (TakeSaid W X)) := fun W h => by rw [HK.out]; exact rtake_any A1 c1 (w1.alloc O).heap.size X W hX6 (by rw [← HK.out]; exact hc1) h.size (rx.below h (Nat.le_refl _))
  have c00 : (w1.alloc O).cell? ⟨w1.heap.size, 0, none⟩ = some (.slice a0 m cap0) := by rw [hO]; simp [go_sem]
  have c01 : (w1.alloc O).cell? ⟨w1.heap.size, 1, none⟩ = some (.slice A1 k c1) := by rw [hO]; simp [go_sem]
  have HC0 := Lib.hid c00
  have HC1 := Lib.hid c01
  rw [← hO]
  unfold TakeSaid at CTP CTX
  clear hO rp rx R1 O1 hp6 hX6 RP RP0 O0
  generalize (got p).1 = np at *
  generalize (got p).2.1 = kp at *
  generalize (got p).2.2 = ep at *
  generalize (got X).1 = nx at *
  generalize (got X).2.1 = kx at *
  generalize (got X).2.2 = ex at *
  refine wp_loop_rounds 3 ?_
  rw [rounds_succ]
  go_wp2_with fail
  refine (CGP.out _ H0).mono ?_
  rintro e x0 ⟨rfl, n0, hx0⟩
  have D0 : Below (w1.alloc O).heap.size (w1.alloc O) x0 := by rw [hx0]; exact H0.trans ⟨rfl, rfl, rfl, Nat.le_refl _, fun _ _ => rfl⟩
  clear hx0
  go_wp2_with fail
  refine (CTP.out _ D0).mono ?_
  rintro e y0 ⟨rfl, T0⟩
  have H1 := D0.trans (T0.mono D0.size)
  have c10 : y0.cell? ⟨w1.heap.size, 0, none⟩ = some (.slice a0 m cap0) := (H1.cell (by simp)).trans HC0.out
  have c11 : y0.cell? ⟨w1.heap.size, 1, none⟩ = some (.slice A1 k c1) := (H1.cell (by simp)).trans HC1.out
  go_wp2_with fail
  rw [rounds_succ]
  go_wp2_with fail
  refine (CGX.out _ H1).mono ?_
  rintro e x1 ⟨rfl, n1, hx1⟩
  have D1 : Below (w1.alloc O).heap.size (w1.alloc O) x1 := by rw [hx1]; exact H1.trans ⟨rfl, rfl, rfl, Nat.le_refl _, fun _ _ => rfl⟩
  clear hx1
  go_wp2_with fail
  refine (CTX.out _ D1).mono ?_
  rintro e y1 ⟨rfl, T1⟩
  have H2 := D1.trans (T1.mono D1.size)
  have c20 : y1.cell? ⟨w1.heap.size, 0, none⟩ = some (.slice a0 m cap0) := (H2.cell (by simp)).trans HC0.out
  have c21 : y1.cell? ⟨w1.heap.size, 1, none⟩ = some (.slice A1 k c1) := (H2.cell (by simp)).trans HC1.out
  go_wp2_with fail
  rw [rounds_succ]
  go_wp2_with fail
  go_ret
  exact ⟨rfl, hB2.trans (H2.mono hB2.size)⟩

set_option maxRecDepth 100000 in
theorem lifted (os : Os) (started : os.Started) (H : Type) (enc : TypeId × Value → H) :
    ReturnsInHanded {} Try.checked os 4 .any (Rows.coinGetsSpec.pre6 enc Try.prog Try.f4 Rows.coinGetsRow.domain false) (Rows.coinGetsSpec.post enc Try.prog Try.f4 false true false false) := by
  refine returnsInHanded_of_change (C := Try.checked) own started (by kernel_rfl) Try.func4
    (ChangeSpec.witness6 (enc := enc) (C := Try.checked) false ⟨#[], #[.slice none 0 0, .int .u8 0], []⟩ 8 (by kernel_rfl) (by kernel_rfl) (by kernel_rfl) (by kernel_rfl)) ?_
  intro W base args ds gs before hval0 hW hcnd _
  have hval : ∀ (j : Nat) t v, Try.f4.params[j]? = some t → args[j]? = some v → Value.okWide Try.prog W .any base t v := hval0
  have hW' := hW
  obtain ⟨p, q, hA0, hV, rfl, hfz, hnd⟩ := hW
  have hA : DataW.TrodAll enc Try.prog W 0 (fun _ => true) true Try.f4.params.toList args.toList ds p := hA0
  rw [Try.params4] at hA hval
  obtain ⟨v0, vs0, d0, ds0, p0, q0, hargs, rfl, rfl, h0, r0⟩ := trodAll_cons hA
  obtain ⟨v1, vs1, d1, ds1, p1, q1, rfl, rfl, rfl, h1, r1⟩ := trodAll_cons r0
  obtain ⟨rfl, rfl, rfl⟩ := trodAll_nil r1
  obtain rfl : args = #[v0, v1] := by cases args; simp_all
  obtain ⟨rfl, rfl⟩ := trodVars_none hV
  obtain ⟨a0, len0, cap0, rfl⟩ := okWide_slice Try.underlying23 (hval 0 23 v0 rfl rfl)
  have k0 := h0
  have lt0 : ∀ x ∈ p0, x.block < W.heap.size := by obtain ⟨m, hm⟩ := k0; exact DataW.trod_lt m _ _ _ hm
  obtain ⟨z0, w0⟩ : ∃ zs, IsRow .u8 W a0 len0 cap0 zs := by
    obtain ⟨fuel, hf⟩ := h0
    rcases open_ints Try.underlying23 Try.underlying5 (by kernel_rfl) hf with ⟨hcs, _⟩ | ⟨x, l, c, zs, hcs, _, hl, hm, hz, _, hcell, hwz⟩
    · simp [Value.cells] at hcs
      obtain ⟨rfl, rfl, rfl⟩ := hcs
      exact ⟨[], .inl ⟨rfl, rfl, rfl, rfl⟩⟩
    · simp [Value.cells] at hcs
      obtain ⟨rfl, rfl, rfl⟩ := hcs
      exact ⟨zs, .inr ⟨_, rfl, hl, hm, by simpa using hz, hcell, hwz⟩⟩
  obtain ⟨a1, rfl, rfl, rfl, w1⟩ := open_int Try.underlying5 (hval 1 5 v1 rfl rfl) h1
  clear hA0 hval0
  refine (walk a0 len0 cap0 z0 a1 W w0 w1).mono fun e W' ⟨he, bel⟩ => ?_
  subst he
  exact ⟨_, rfl, _, _, _, [], _, [], hW', trodAll_mk1 (shut_bool Try.underlying4 _), (trodAll_cons_mk (Below.trod laidOut (by kernel_rfl) (of_decide_eq_true (by kernel_rfl)) k0 bel lt0) (trodAll_cons_mk (shut_int Try.underlying5 w1) trodAll_mk0)), rfl, bel.frame _, fun h => by cases h⟩

theorem over : Rows.coinGetsRow.holds Try.pinned (OpenSpec.ofChange Rows.coinGetsSpec) :=
  OpenClaim.holds_of_wide 4 Try.f4 rfl rfl rfl rfl rfl rfl rfl ⟨rfl, rfl, rfl, rfl, rfl⟩ rfl rfl rfl rfl rfl (by kernel_rfl) Try.func4 (by kernel_rfl)
    (of_decide_eq_true (by kernel_rfl)) (by unfold Func.isWrapper; first | (rw [if_pos (by decide +kernel)]; kernel_rfl) | (rw [if_neg (by decide +kernel)]; exact ⟨rfl, rfl⟩))
    (fun os started H enc _ => lifted os started H enc)

theorem proved : Rows.CoinGetsSaid := over
#print axioms proved
end Go.Proofs.Ytgmojgfeifojnaa.coinGets
