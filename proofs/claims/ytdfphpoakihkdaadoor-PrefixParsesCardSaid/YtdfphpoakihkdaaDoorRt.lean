/- The document's own Text: its contract. -/
import Derived.Test.YtdfphpoakihkdaaDoorPar
namespace Go.Proofs.YtdfphpoakihkdaaDoor.Pre
open Go.ChangeShapes Go.WideShapes Go.ChangeAt Go.RowKit Go.Sort

def dec (n : Nat) : ByteArray := ⟨(Lib.decDigits n).toArray⟩
def dbyte (n : Nat) : UInt8 := UInt8.ofNat (48 + n)
theorem dec_small {n : Nat} (h : n < 10) : Lib.decDigits n = [dbyte n] := by rw [Lib.decDigits, dif_pos h]; rfl
theorem dec_big {n : Nat} (h : ¬ n < 10) : Lib.decDigits n = Lib.decDigits (n / 10) ++ Lib.decDigits (n % 10) := by
  rw [Lib.decDigits, dif_neg h, dec_small (show n % 10 < 10 by omega)]; rfl
theorem dec_app {n : Nat} (h : ¬ n < 10) : dec n = dec (n / 10) ++ dec (n % 10) := by
  unfold dec; rw [dec_big h]
  apply ByteArray.ext
  simp [ByteArray.data_append]

theorem num1 (n : Nat) (h : n < 10) (w : World) : Calls Tryd.prog 33 #[.int .u32 n] w fun e w' => e = .returned (.string (dec n)) ∧ Below w.heap.size w w' := by
  have hcv := fun (W : World) => run_convert_bytes_back (P := Tryd.prog) (W.alloc (.cells #[.int .u8 (48 + (n : Int))] 5)) 41 9 5 ⟨W.heap.size, 0, none⟩ 1 [dbyte n] Tryd.underlying41 Tryd.underlying5 Tryd.underlying9 (fun j hj => by
    obtain rfl : j = 0 := by simpa using hj
    simp [Addr.add, go_sem, dbyte]; omega)
  simp only [List.length_cons, List.length_nil, Nat.zero_add] at hcv
  have hd : dec n = ⟨[dbyte n].toArray⟩ := by unfold dec; rw [dec_small h]
  have HD := Lib.hid hd
  clear hd
  go_enter Tryd.func33, Tryd.ntmps33
  go_wp2
  go_ret
  exact ⟨by rw [HD.out]; rfl, (Below.refl _ _).alloc (Nat.le_refl _) _⟩

theorem dec_size (n : Nat) (h : n < 256) : (dec n).size ≤ 3 := by
  unfold dec
  show (Lib.decDigits n).toArray.size ≤ 3
  simp only [List.size_toArray, Lib.decDigits_length]
  by_cases h1 : n < 10
  · rw [Lib.nDigits_small h1]; omega
  · rw [Lib.nDigits_big h1]
    by_cases h2 : n / 10 < 10
    · rw [Lib.nDigits_small h2]; omega
    · rw [Lib.nDigits_big h2, Lib.nDigits_small (by omega)]; omega

theorem num2 (n : Nat) (h : n < 100) (w : World) : Calls Tryd.prog 33 #[.int .u32 n] w fun e w' => e = .returned (.string (dec n)) ∧ Below w.heap.size w w' := by
  by_cases h1 : n < 10
  · exact num1 n h1 w
  · have c1 := fun W => num1 (n / 10) (by omega) W
    have c2 := fun W => num1 (n % 10) (by omega) W
    have hd := dec_app h1
    have s1 := dec_size (n / 10) (by omega)
    have s2 := dec_size (n % 10) (by omega)
    have HD := Lib.hid hd
    clear hd
    generalize dec (n / 10) = x at *
    generalize dec (n % 10) = y at *
    have e1 : ((n / 10 : Nat) : Int) = (n : Int) / 10 := by omega
    have e2 : ((n % 10 : Nat) : Int) = (n : Int) % 10 := by omega
    rw [e1] at c1
    rw [e2] at c2
    clear e1 e2
    go_enter Tryd.func33, Tryd.ntmps33
    go_wp2_with fail
    refine (c1 _).mono ?_
    rintro e w1 ⟨rfl, hb1⟩
    go_wp2_with fail
    refine (c2 _).mono ?_
    rintro e w2 ⟨rfl, hb2⟩
    go_wp2_with fail
    go_ret
    exact ⟨by rw [HD.out]; rfl, bstep hb1 hb2⟩

theorem num3 (n : Nat) (h : n < 256) (w : World) : Calls Tryd.prog 33 #[.int .u32 n] w fun e w' => e = .returned (.string (dec n)) ∧ Below w.heap.size w w' := by
  by_cases h1 : n < 10
  · exact num1 n h1 w
  · have c1 := fun W => num2 (n / 10) (by omega) W
    have c2 := fun W => num1 (n % 10) (by omega) W
    have hd := dec_app h1
    have s1 := dec_size (n / 10) (by omega)
    have s2 := dec_size (n % 10) (by omega)
    have HD := Lib.hid hd
    clear hd
    generalize dec (n / 10) = x at *
    generalize dec (n % 10) = y at *
    have e1 : ((n / 10 : Nat) : Int) = (n : Int) / 10 := by omega
    have e2 : ((n % 10 : Nat) : Int) = (n : Int) % 10 := by omega
    rw [e1] at c1
    rw [e2] at c2
    clear e1 e2
    go_enter Tryd.func33, Tryd.ntmps33
    go_wp2_with fail
    refine (c1 _).mono ?_
    rintro e w1 ⟨rfl, hb1⟩
    go_wp2_with fail
    refine (c2 _).mono ?_
    rintro e w2 ⟨rfl, hb2⟩
    go_wp2_with fail
    go_ret
    exact ⟨by rw [HD.out]; rfl, bstep hb1 hb2⟩
theorem num_int (x : Int) (h0 : 0 ≤ x) (h : x < 256) (w : World) : Calls Tryd.prog 33 #[.int .u32 x] w fun e w' => e = .returned (.string (dec x.toNat)) ∧ Below w.heap.size w w' := by
  obtain ⟨n, rfl⟩ := Int.eq_ofNat_of_zero_le h0
  exact num3 n (by omega) w

theorem text_dec (a n : Int) : (⟨(text a n).toArray⟩ : ByteArray) = dec (a / 16777216).toNat ++ ⟨#[46]⟩ ++ dec (a / 65536 % 256).toNat ++ ⟨#[46]⟩ ++ dec (a / 256 % 256).toNat ++ ⟨#[46]⟩ ++ dec (a % 256).toNat ++ ⟨#[47]⟩ ++ dec n.toNat := by
  apply ByteArray.ext
  simp [text, pre, dec, ByteArray.data_append]

theorem rtext_any (p m : Nat) (hp : p < 4294967296) (hm : m ≤ 255) (w : World) :
    Calls Tryd.prog 25 #[.agg #[.int .u32 p, .int .u8 m]] w fun e w' => e = .returned (.string ⟨(text p m).toArray⟩) ∧ Below w.heap.size w w' := by
  have ht := text_dec p m
  have C0 := fun W => num_int ((p : Int) / 16777216) (by omega) (by omega) W
  have C1 := fun W => num_int ((p : Int) / 65536 % 256) (by omega) (by omega) W
  have C2 := fun W => num_int ((p : Int) / 256 % 256) (by omega) (by omega) W
  have C3 := fun W => num_int ((p : Int) % 256) (by omega) (by omega) W
  have C4 := fun W => num_int (m : Int) (by omega) (by omega) W
  have s0 := dec_size ((p : Int) / 16777216).toNat (by omega)
  have s1 := dec_size ((p : Int) / 65536 % 256).toNat (by omega)
  have s2 := dec_size ((p : Int) / 256 % 256).toNat (by omega)
  have s3 := dec_size ((p : Int) % 256).toNat (by omega)
  have s4 := dec_size ((m : Int)).toNat (by omega)
  generalize dec ((p : Int) / 16777216).toNat = x0 at *
  generalize dec ((p : Int) / 65536 % 256).toNat = x1 at *
  generalize dec ((p : Int) / 256 % 256).toNat = x2 at *
  generalize dec ((p : Int) % 256).toNat = x3 at *
  generalize dec ((m : Int)).toNat = x4 at *
  have n0 : ¬ 9223372036854775807 < x0.size + 1 := by omega
  have n1 : ¬ 9223372036854775807 < x0.size + 1 + x1.size := by omega
  have n2 : ¬ 9223372036854775807 < x0.size + 1 + x1.size + 1 := by omega
  have n3 : ¬ 9223372036854775807 < x0.size + 1 + x1.size + 1 + x2.size := by omega
  have n4 : ¬ 9223372036854775807 < x0.size + 1 + x1.size + 1 + x2.size + 1 := by omega
  have n5 : ¬ 9223372036854775807 < x0.size + 1 + x1.size + 1 + x2.size + 1 + x3.size := by omega
  have n6 : ¬ 9223372036854775807 < x0.size + 1 + x1.size + 1 + x2.size + 1 + x3.size + 1 := by omega
  have n7 : ¬ 9223372036854775807 < x0.size + 1 + x1.size + 1 + x2.size + 1 + x3.size + 1 + x4.size := by omega
  have HT := Lib.hid ht
  clear ht
  have d0 : (w.alloc (.cells #[.int .u32 (p : Nat), .int .u8 (m : Nat)] 24)).cell? ⟨w.heap.size, 0, none⟩ = some (.int .u32 p) := by simp [go_sem]
  have d1 : (w.alloc (.cells #[.int .u32 (p : Nat), .int .u8 (m : Nat)] 24)).cell? ⟨w.heap.size, 1, none⟩ = some (.int .u8 m) := by simp [go_sem]
  have hW : Below w.heap.size w (w.alloc (.cells #[.int .u32 (p : Nat), .int .u8 (m : Nat)] 24)) := (Below.refl _ _).alloc (Nat.le_refl _) _
  have v0 : IntKind.u32.wrap ((p : Int) / 16777216) = (p : Int) / 16777216 := by rw [IntKind.wrap_u32]; omega
  have v1 : IntKind.u32.wrap ((p : Int) / 65536) = (p : Int) / 65536 := by rw [IntKind.wrap_u32]; omega
  have v2 : IntKind.u32.wrap ((p : Int) / 256) = (p : Int) / 256 := by rw [IntKind.wrap_u32]; omega
  have v3 : IntKind.u32.wrap ((p : Int) / 65536 % 256) = (p : Int) / 65536 % 256 := by rw [IntKind.wrap_u32]; omega
  have v4 : IntKind.u32.wrap ((p : Int) / 256 % 256) = (p : Int) / 256 % 256 := by rw [IntKind.wrap_u32]; omega
  have v5 : IntKind.u32.wrap ((p : Int) % 256) = (p : Int) % 256 := by rw [IntKind.wrap_u32]; omega
  have v6 : IntKind.u32.wrap (m : Int) = m := by rw [IntKind.wrap_u32]; omega
  have r0 : ((p : Int) / 65536).tmod 256 = (p : Int) / 65536 % 256 := Int.tmod_eq_emod_of_nonneg (by omega)
  have r1 : ((p : Int) / 256).tmod 256 = (p : Int) / 256 % 256 := Int.tmod_eq_emod_of_nonneg (by omega)
  have r2 : ((p : Int)).tmod 256 = (p : Int) % 256 := Int.tmod_eq_emod_of_nonneg (by omega)
  go_enter Tryd.func25, Tryd.ntmps25
  go_wp2_with fail
  generalize w.alloc (.cells #[.int .u32 (p : Nat), .int .u8 (m : Nat)] 24) = W at *
  generalize w.heap.size = g at d0 d1 ⊢
  have k0 := cell_regrown d0
  have k1 := cell_regrown d1
  clear d0 d1
  have c0 := fun d os => Calls.regrown_of (w := W) (d := d) (os := os) (C0 _)
  have c1 := fun d os => Calls.regrown_of (w := W) (d := d) (os := os) (C1 _)
  have c2 := fun d os => Calls.regrown_of (w := W) (d := d) (os := os) (C2 _)
  have c3 := fun d os => Calls.regrown_of (w := W) (d := d) (os := os) (C3 _)
  have c4 := fun d os => Calls.regrown_of (w := W) (d := d) (os := os) (C4 _)
  clear C0 C1 C2 C3 C4
  refine wp_region_quiet_below (by kernel_rfl) (by kernel_rfl) ?_
  repeat (quiet_step (first | with_reducible exact c0 _ _ | with_reducible exact c1 _ _ | with_reducible exact c2 _ _ | with_reducible exact c3 _ _ | with_reducible exact c4 _ _))
  refine wpQuiet_nil ?_
  intro _ hw'
  obtain ⟨⟨dq, osq⟩, hw''⟩ := hw'
  subst hw''
  go_wp2
  go_ret
  refine ⟨?_, bstep hW (below_regrown W dq osq)⟩
  rw [HT.out]; rfl
end Go.Proofs.YtdfphpoakihkdaaDoor.Pre
