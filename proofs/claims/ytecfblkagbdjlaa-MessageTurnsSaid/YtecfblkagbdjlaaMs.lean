/- The document's example. -/
import Derived.Test.YtecfblkagbdjlaaMr
namespace Go.Proofs.Ytecfblkagbdjlaa.Msg
open Go.ChangeShapes Go.WideShapes Go.ChangeAt Go.RowKit
open Coin (coin sz b8 Rd Row Own CoinOwn put_any sz_le length_coin rcoin_own app_any info5 one_b8 str str_toList)
set_option maxRecDepth 8000
set_option linter.unusedVariables false

theorem psl_one {w : World} {b : Nat} {x : Pt} {xs : Array Value} (hx : xs = x.cl.toArray) (h : w.heap[b]? = some (.cells xs 28 (0, 0))) : PSl w (some ⟨b, 0, none⟩) [x] := fun k hk => by
  obtain rfl : k = 0 := by simp at hk; omega
  subst hx
  refine ⟨b, 0, rfl, (Array.getElem?_eq_some_iff.1 h).1, ?_⟩
  obtain ⟨⟨k0, k1, k2, k3, k4, k5, k6⟩, -⟩ := row7 h
  exact ⟨k0, k1, k2, k3, k4, k5, k6⟩
def five : Pt := ⟨1, 5, 0, 0, 0, 0, 0⟩
theorem five_fits : five.Fits := by constructor <;> decide
theorem five_enc : (enc 2 [five]).length = 9 ∧ (enc 2 [five]).take 5 = [1, 2, 1, 1, 5] := by
  have e : encB 2 [five] = [1, 2, 1, 1, 5] := by decide +kernel
  unfold enc sealB
  rw [e]
  exact ⟨rfl, rfl⟩
theorem five_dec : dec (enc 2 [five]) = (0, 2, [five], 0) := dec_enc 2 (by decide) [five] (fun x hx => by rw [List.mem_singleton.1 hx]; exact five_fits)
set_option maxHeartbeats 1000000 in
theorem awake_any (w : World) : Calls Try.prog 12 #[] w fun e w' => e = .returned (.bool true) ∧ Below w.heap.size w w' := by
  have B0 : Below w.heap.size w (w.alloc (.cells #[.int .u8 1, .int .u64 5, .int .i64 0, .int .u32 0, .int .u8 0, .int .u16 0, .int .u16 0] 28)) := (Below.refl _ _).alloc (Nat.le_refl _) _
  have hen := enc_any (w.alloc (.cells #[.int .u8 1, .int .u64 5, .int .i64 0, .int .u32 0, .int .u8 0, .int .u16 0, .int .u16 0] 28)) 2 1 1 (some ⟨w.heap.size, 0, none⟩) [five] (by decide) rfl (by decide) (psl_one rfl (heap_alloc_new w _)) (fun x hx => by rw [List.mem_singleton.1 hx]; exact five_fits)
  have hen : Calls Try.prog 9 #[.agg #[.int .i64 2, .slice (some ⟨w.heap.size, 0, none⟩) 1 1]] (w.alloc (.cells #[.int .u8 1, .int .u64 5, .int .i64 0, .int .u32 0, .int .u8 0, .int .u16 0, .int .u16 0] 28)) (CoinOwn _ (enc 2 [five])) := hen
  have h9 := five_enc
  have hdc := fun W A m cap h1 h2 h3 h4 h5 => dec_any A m cap (enc 2 [five]) W h1 h2 h3 h4 h5
  simp only [five_dec] at hdc
  unfold DecSaid at hdc
  generalize enc 2 [five] = Y at *
  have HX := Lib.hid (And.intro hen (And.intro h9 (And.intro hdc B0)))
  clear hen h9 hdc B0
  go_enter Try.func12, Try.ntmps12
  go_upto_region 2 with (go_at_call 9; (with_reducible refine HX.out.1.mono ?_); (rintro e w2 ⟨v, rfl, O2, B2⟩; obtain ⟨A, c, hv, R2, hc, hn⟩ := O2.form; rw [HX.out.2.1.1] at hv hc; subst hv; have HW := Lib.hid (And.intro R2 (And.intro hc (And.intro hn (HX.out.2.2.2.trans (B2.mono (by simp)))))); clear O2 B2 R2 hc hn))
  have c16 := HX.out.2.2.1 w2 A 9 c HX.out.2.1.1.symm (by decide) HW.out.1 HW.out.2.1 HW.out.2.2.1
  have c16 : Calls Try.prog 16 #[.slice A 9 c] w2 fun e w' => ∃ A' c', e = .returned (.tuple #[.agg #[.int .i64 2, .slice A' 1 c'], .int .i64 0, .int .i64 0]) ∧ PSl w' A' [five] ∧ Below w2.heap.size w2 w' := c16
  have HC := Lib.hid c16
  clear c16
  go_upto_region 3 with (go_at_call 16; (with_reducible refine HC.out.mono ?_); (rintro e w3 ⟨A3, c3, rfl, -, B3⟩; have HZ := Lib.hid B3; clear B3))
  have R3 := HW.out.1.below (HZ.out.alloc HZ.out.size (.cells #[.int .i64 2, .slice A3 1 c3] 34)) (Nat.le_refl _)
  have B4 := Lib.hid (HW.out.2.2.2.trans ((HZ.out.alloc HZ.out.size (.cells #[.int .i64 2, .slice A3 1 c3] 34)).mono HW.out.2.2.2.size))
  obtain ⟨⟨g0, g1⟩, -⟩ := row2p (heap_alloc_new w3 (.cells #[.int .i64 2, .slice A3 1 c3] 34))
  have hup : ∀ W, (Instr.slice 30 (.slice A 9 c) none (some (.int .i64 5)) none).run Try.prog W = .ok (.slice A 5 c) W := fun W => Coin.upto_any (A := A) 9 c 5 HW.out.2.2.1 HW.out.2.1 (by decide) W
  have R5 := R3.take 5
  rw [HX.out.2.1.2] at R5
  have hcv := Coin.conv_any R5 5 c rfl
  have hst : (str [1, 2, 1, 1, 5] : ByteArray) = ⟨#[1, 2, 1, 1, 5]⟩ := rfl
  rw [hst] at hcv
  have hc9 : (9 : Int) ≤ c := by have := HW.out.2.1; omega
  have hc5 : (5 : Int) ≤ c := by omega
  clear R3 R5 hst
  go_wp2
  go_ret
  exact ⟨rfl, B4.out⟩
end Go.Proofs.Ytecfblkagbdjlaa.Msg
