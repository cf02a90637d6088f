/- Contracts of package prefix's functions on numbers, and of the document's own answers, as they stand in the landed program. -/
import Derived.Test.YtdfphpoakihkdaaDoorTxt
import Derived.Test.YtdfphpoakihkdaaDoorMath
import Derived.Laws.BitsAllLaws
import Derived.Lib.QuietBelow
import Derived.BigQuiet
import Derived.Deep.RegionHeld3
import Derived.StillTailTactics
namespace Go.Proofs.YtdfphpoakihkdaaDoor.Pre
open Go.ChangeShapes Go.WideShapes Go.ChangeAt Go.RowKit Go.Sort

theorem ret_bool {a b : Bool} (h : a = b) : Ending.returned (.bool a) = .returned (.bool b) := by rw [h]
theorem ret_int {k : IntKind} {a b : Int} (h : a = b) : Ending.returned (.int k a) = .returned (.int k b) := by rw [h]
theorem bcell {W w1 : World} (hb : Below W.heap.size W w1) : (∀ b o, b < W.heap.size → w1.cell? ⟨b, o, none⟩ = W.cell? ⟨b, o, none⟩) ∧ (∀ b o, b < W.heap.size → w1.frozen? ⟨b, o, none⟩ = W.frozen? ⟨b, o, none⟩) :=
  ⟨fun b o h => hb.cell (p := ⟨b, o, none⟩) h, fun b o h => hb.frozen (p := ⟨b, o, none⟩) h⟩
theorem bstep {w W w1 : World} (h : Below w.heap.size w W) (hb : Below W.heap.size W w1) : Below w.heap.size w w1 := h.trans (hb.mono h.size)

/-- The mask of the first n bits. -/
def msk (n : Nat) : Nat := 4294967295 - (2 ^ rest n - 1)
theorem msk_lt (n : Nat) : msk n < 4294967296 := by unfold msk; omega

set_option linter.unusedVariables false in
theorem mask_any (n : Nat) (hn : n ≤ 255) (w : World) :
    Calls Tryd.prog 26 #[.int .u8 n] w fun e w' => e = .returned (.int .u32 (msk n : Nat)) ∧ w = w' := by
  go_enter Tryd.func26, Tryd.ntmps26
  go_wp2
  go_ret
  refine ⟨ret_int ?_, rfl⟩
  have h1 : ((4294967295 : Int) / 2 ^ min n 32) = ((4294967295 / 2 ^ min n 32 : Nat) : Int) := by simp
  have hp := pow_rest_le n
  have hp1 := Nat.two_pow_pos (rest n)
  rw [h1, ones_div]
  have hm : IntKind.u32.max = ((4294967295 : Nat) : Int) := by rfl
  rw [hm, u32_xor_nat _ _ (by omega) (by omega)]
  congr 1
  exact xor_ones (2 ^ rest n - 1) (by omega)

theorem mask_same (n : Nat) (hn : n ≤ 255) (w : World) :
    Calls Tryd.prog 26 #[.int .u8 n] w fun e w' => e = .returned (.int .u32 (msk n : Nat)) ∧ w' = w := (mask_any n hn w).mono fun _ _ ⟨a, b⟩ => ⟨a, b.symm⟩

theorem and_msk (a n : Nat) (ha : a < 4294967296) : a &&& msk n = top a n := by
  unfold msk top
  exact and_top a (rest n) ha (rest_le n)
theorem and_msk_i (a n : Nat) (ha : a < 4294967296) : bits .and .u32 (a : Int) (msk n : Nat) = ((top a n : Nat) : Int) := by
  rw [u32_and_nat a _ ha (msk_lt n), and_msk a n ha]
theorem top_len (a n : Nat) : top a (len n) = top a n := by unfold top; rw [rest_len]

theorem of_any (a n : Nat) (ha : a < 4294967296) (hn : n ≤ 255) (w : World) :
    Calls Tryd.prog 10 #[.int .u32 a, .int .u8 n] w fun e w' => e = .returned (.agg #[.int .u32 (top a n : Nat), .int .u8 (len n : Nat)]) ∧ Below w.heap.size w w' := by
  have hmin : min (n : Int) 32 = ((len n : Nat) : Int) := by unfold len; omega
  have hl := len_le n
  have hand := and_msk_i a (len n) ha
  rw [top_len] at hand
  go_enter Tryd.func10, Tryd.ntmps10
  go_wp2_with (go_at_call 26; refine (mask_any (len n) (by omega) _).mono ?_; rintro e w' ⟨rfl, rfl⟩)
  exact bodyPost_ret (v := .agg #[.int .u32 (top a n : Nat), .int .u8 (len n : Nat)]) (by simp [results, Tryd.results10, go_sem]) rfl ⟨rfl, (Below.refl _ _).alloc (Nat.le_refl _) _⟩

theorem bit_any (a n : Nat) (ha : a < 4294967296) (hn : n ≤ 255) (w : World) :
    Calls Tryd.prog 22 #[.int .u32 a, .int .u8 n] w fun e w' => e = .returned (.bool (decide (n < 32) && bit a n)) ∧ w = w' := by
  by_cases h : n < 32
  · have hs : (31 - (n : Int)).toNat = 31 - n := by omega
    have hb : (bits .and .u32 ((a : Int) / 2 ^ (31 - n)) 1 == 1) = bit a n := by
      have e1 : ((a : Int) / 2 ^ (31 - n)) = ((a / 2 ^ (31 - n) : Nat) : Int) := by simp
      have hlt : a / 2 ^ (31 - n) < 4294967296 := Nat.lt_of_le_of_lt (Nat.div_le_self _ _) ha
      rw [e1, show (1 : Int) = ((1 : Nat) : Int) from rfl, u32_and_nat _ _ hlt (by decide), Nat.and_one_is_mod]
      unfold bit
      generalize a / 2 ^ (31 - n) % 2 = x
      rw [Bool.eq_iff_iff]; simp; omega
    go_enter Tryd.func22, Tryd.ntmps22
    go_wp2
    go_ret
    exact ⟨ret_bool (by simp [h]), rfl⟩
  · go_enter Tryd.func22, Tryd.ntmps22
    go_wp2
    go_ret
    exact ⟨ret_bool (by simp), rfl⟩

theorem right_any (a n : Nat) (ha : a < 4294967296) (hn : n ≤ 255) (w : World) :
    Calls Tryd.prog 13 #[.agg #[.int .u32 a, .int .u8 n]] w fun e w' => e = .returned (.bool (right a n)) ∧ Below w.heap.size w w' := by
  have hand : (bits .andNot .u32 (a : Int) (msk n : Nat) == 0) = (a % 2 ^ rest n == 0) := by
    rw [u32_andNot_nat a _ ha (msk_lt n)]
    have hp := pow_rest_le n
    have hp1 := Nat.two_pow_pos (rest n)
    have e : 4294967295 - msk n = 2 ^ rest n - 1 := by unfold msk; omega
    rw [e, and_low]
    generalize a % 2 ^ rest n = x
    rw [Bool.eq_iff_iff]; simp
  by_cases h : n ≤ 32
  · have hd : decide ((n : Int) ≤ 32) = true := by simp; omega
    go_enter Tryd.func13, Tryd.ntmps13
    go_wp2
    go_quiet ((go_at_call 26; exact Calls.quiet_of_same (mask_same n hn _)))
    go_wp2
    go_ret
    exact ⟨ret_bool (by simp [right, h]), ((Below.refl _ _).alloc (Nat.le_refl _) _).trans ⟨rfl, rfl, rfl, Nat.le_refl _, fun _ _ => rfl⟩⟩
  · have hd : decide ((n : Int) ≤ 32) = false := by simp; omega
    go_enter Tryd.func13, Tryd.ntmps13
    go_wp2
    go_quiet ((go_at_call 26; exact Calls.quiet_of_same (mask_same n hn _)))
    go_wp2
    go_ret
    exact ⟨ret_bool (by simp [right, h]), ((Below.refl _ _).alloc (Nat.le_refl _) _).trans ⟨rfl, rfl, rfl, Nat.le_refl _, fun _ _ => rfl⟩⟩

theorem has_any (p n b : Nat) (hp : p < 4294967296) (hn : n ≤ 255) (hb : b < 4294967296) (w : World) :
    Calls Tryd.prog 15 #[.agg #[.int .u32 p, .int .u8 n], .int .u32 b] w fun e w' => e = .returned (.bool (alike p b n)) ∧ Below w.heap.size w w' := by
  have hxl : p ^^^ b < 4294967296 := Nat.xor_lt_two_pow (n := 32) (by omega) (by omega)
  have hx : bits .xor .u32 (p : Int) (b : Int) = ((p ^^^ b : Nat) : Int) := u32_xor_nat p b hp hb
  have hand : bits .and .u32 ((p ^^^ b : Nat) : Int) (msk n : Nat) = ((top (p ^^^ b) n : Nat) : Int) := and_msk_i _ n hxl
  have he : (((top (p ^^^ b) n : Nat) : Int) == 0) = alike p b n := by
    have := xor_alike p b (rest n)
    unfold alike
    show ((((p ^^^ b) / 2 ^ rest n * 2 ^ rest n : Nat) : Int) == 0) = _
    generalize (p ^^^ b) / 2 ^ rest n * 2 ^ rest n = x at this ⊢
    rw [Bool.eq_iff_iff]; simp only [beq_iff_eq]; rw [← this]; omega
  generalize p ^^^ b = x at *
  generalize top x n = y at *
  go_enter Tryd.func15, Tryd.ntmps15
  go_wp2
  go_quiet ((go_at_call 26; exact Calls.quiet_of_same (mask_same n hn _)))
  go_wp2
  go_ret
  exact ⟨rfl, ((Below.refl _ _).alloc (Nat.le_refl _) _).trans ⟨rfl, rfl, rfl, Nat.le_refl _, fun _ _ => rfl⟩⟩

def within (p m q n : Nat) : Bool := decide (n ≤ m) && alike q p n

theorem within_any (p m q n : Nat) (hp : p < 4294967296) (_hm : m ≤ 255) (hq : q < 4294967296) (hn : n ≤ 255) (w : World) :
    Calls Tryd.prog 17 #[.agg #[.int .u32 p, .int .u8 m], .agg #[.int .u32 q, .int .u8 n]] w fun e w' => e = .returned (.bool (within p m q n)) ∧ Below w.heap.size w w' := by
  by_cases h : n ≤ m
  · go_enter Tryd.func17, Tryd.ntmps17
    go_wp2_with (go_at_call 15; refine (has_any q n p hq hn hp _).mono ?_; rintro e w1 ⟨rfl, hb⟩)
    go_ret
    exact ⟨ret_bool (by simp [within, h]), bstep (((Below.refl _ _).alloc (Nat.le_refl _) _).alloc (by simp) _) hb⟩
  · go_enter Tryd.func17, Tryd.ntmps17
    go_wp2
    go_ret
    exact ⟨ret_bool (by simp [within, h]), ((Below.refl _ _).alloc (Nat.le_refl _) _).alloc (by simp) _⟩

theorem rbit_any (a i : Nat) (ha : a < 4294967296) (hi : i ≤ 255) (w : World) :
    Calls Tryd.prog 20 #[.int .u32 a, .int .i64 i] w fun e w' => e = .returned (.bool (bit a i)) ∧ w = w' := by
  go_enter Tryd.func20, Tryd.ntmps20
  go_wp2
  go_loop [0, 1] (fun x j => ∃ k : Nat, i ≤ k ∧ k ≤ max i 31 ∧ j = .int .i64 k ∧ x = .int .u32 (a / 2 ^ (k - i) : Nat)) (fun _ j => 255 - (intOf j).toNat)
  case atStart => exact ⟨i, by omega, by omega, rfl, by simp⟩
  case round =>
    obtain ⟨k, hk, hk2, rfl, rfl⟩ := hrel
    have hx : a / 2 ^ (k - i) < 4294967296 := Nat.lt_of_le_of_lt (Nat.div_le_self _ _) ha
    by_cases hlt : k < 31
    · have e : a / 2 ^ (k - i) / 2 = a / 2 ^ (k + 1 - i) := by
        rw [show k + 1 - i = k - i + 1 by omega, Nat.pow_succ, Nat.div_div_eq_div_mul]
      have E := Lib.hid e
      clear e
      generalize hy : a / 2 ^ (k - i) = y at *
      clear hy
      go_wp2
      go_round
      case rel => exact ⟨k + 1, by omega, by omega, by go_num, by rw [← E.out]; simp⟩
      case measure => simp [intOf]; omega
    · have e : (a / 2 ^ (k - i)) % 2 = a / 2 ^ (31 - i) % 2 := by
        by_cases h31 : i ≤ 31
        · rw [show k = 31 by omega]
        · rw [show k - i = 0 by omega, show 31 - i = 0 by omega]
      have E := Lib.hid e
      clear e
      generalize hy : a / 2 ^ (k - i) = y at *
      clear hy
      go_wp2
      go_ret
      refine ⟨ret_bool ?_, rfl⟩
      unfold bit
      rw [← E.out, Bool.eq_iff_iff]; simp; omega

/-- Compare's answer. -/
def cmpV (x y : Nat) : Int := if x < y then -1 else if y < x then 1 else 0
theorem cmp32_any (x y : Nat) (w : World) : Calls Tryd.prog 28 #[.int .u32 x, .int .u32 y] w fun e w' => e = .returned (.int .i64 (cmpV x y)) ∧ w = w' := by
  rcases Nat.lt_trichotomy x y with h | h | h
  · go_enter Tryd.func28, Tryd.ntmps28
    go_wp2
    go_ret
    exact ⟨ret_int (by simp [cmpV, h]), rfl⟩
  · subst h
    go_enter Tryd.func28, Tryd.ntmps28
    go_wp2
    go_ret
    exact ⟨ret_int (by simp [cmpV]), rfl⟩
  · have h2 : ¬ x < y := by omega
    go_enter Tryd.func28, Tryd.ntmps28
    go_wp2
    go_ret
    exact ⟨ret_int (by simp [cmpV, h, h2]), rfl⟩
theorem cmp8_any (x y : Nat) (w : World) : Calls Tryd.prog 29 #[.int .u8 x, .int .u8 y] w fun e w' => e = .returned (.int .i64 (cmpV x y)) ∧ w = w' := by
  rcases Nat.lt_trichotomy x y with h | h | h
  · go_enter Tryd.func29, Tryd.ntmps29
    go_wp2
    go_ret
    exact ⟨ret_int (by simp [cmpV, h]), rfl⟩
  · subst h
    go_enter Tryd.func29, Tryd.ntmps29
    go_wp2
    go_ret
    exact ⟨ret_int (by simp [cmpV]), rfl⟩
  · have h2 : ¬ x < y := by omega
    go_enter Tryd.func29, Tryd.ntmps29
    go_wp2
    go_ret
    exact ⟨ret_int (by simp [cmpV, h, h2]), rfl⟩
def orV (x y : Int) : Int := if x = 0 then y else x
theorem or_any (x y : Int) (b : Nat) (w : World) (h0 : w.cell? ⟨b, 0, none⟩ = some (.int .i64 x)) (h1 : w.cell? ⟨b, 1, none⟩ = some (.int .i64 y)) :
    Calls Tryd.prog 27 #[.slice (some ⟨b, 0, none⟩) 2 2] w fun e w' => e = .returned (.int .i64 (orV x y)) ∧ w = w' := by
  by_cases hx : x = 0
  · subst hx
    by_cases hy : y = 0
    · subst hy
      go_enter Tryd.func27, Tryd.ntmps27
      go_wp2
      refine wp_loop_rounds 3 ?_
      repeat (rw [rounds_succ]; go_wp2)
      go_ret
      exact ⟨ret_int (by simp [orV]), rfl⟩
    · have hb : (y != 0) = true := by simpa using hy
      go_enter Tryd.func27, Tryd.ntmps27
      go_wp2
      refine wp_loop_rounds 3 ?_
      repeat (rw [rounds_succ]; go_wp2)
      go_ret
      exact ⟨ret_int (by simp [orV]), rfl⟩
  · have hb : (x != 0) = true := by simpa using hx
    go_enter Tryd.func27, Tryd.ntmps27
    go_wp2
    refine wp_loop_rounds 3 ?_
    repeat (rw [rounds_succ]; go_wp2)
    go_ret
    exact ⟨ret_int (by simp [orV, hx]), rfl⟩

/-- Compare's answer of two prefixes: by Addr, then Len. -/
def cmpP (p m q n : Nat) : Int := orV (cmpV p q) (cmpV m n)
theorem compare_any (p m q n : Nat) (w : World) :
    Calls Tryd.prog 18 #[.agg #[.int .u32 p, .int .u8 m], .agg #[.int .u32 q, .int .u8 n]] w fun e w' => e = .returned (.int .i64 (cmpP p m q n)) ∧ Below w.heap.size w w' := by
  go_enter Tryd.func18, Tryd.ntmps18
  go_wp2
  go_region_held3 (fun x => x.cell? ⟨w.heap.size, 0, none⟩ = some (.int .u32 p) ∧ x.cell? ⟨w.heap.size, 1, none⟩ = some (.int .u8 m) ∧ x.cell? ⟨w.heap.size + 1, 0, none⟩ = some (.int .u32 q) ∧ x.cell? ⟨w.heap.size + 1, 1, none⟩ = some (.int .u8 n) ∧ (w.heap.size + 1 < x.heap.size ∧ Below w.heap.size w x))
    ((repeat' apply And.intro) <;> first | exact (((Below.refl _ _).alloc (Nat.le_refl _) _).alloc (by simp) _).drew | exact ((((Below.refl _ _).alloc (Nat.le_refl _) _).alloc (by simp) _).alloc (by simp; omega) _).drew | assumption | exact Below.alloc (by assumption) (by simp; omega) _ | go_keep | (simp; omega))
    (first
    | (go_at_call 28; refine (cmp32_any p q _).mono ?_; rintro e w' ⟨rfl, rfl⟩)
    | (go_at_call 29; refine (cmp8_any m n _).mono ?_; rintro e w' ⟨rfl, rfl⟩)
    | (go_at_call 27; refine (or_any (cmpV p q) (cmpV m n) _ _ (by simp [go_sem]) (by simp [go_sem])).mono ?_; rintro e w' ⟨rfl, rfl⟩))
  all_goals (go_wp2; go_ret; exact ⟨rfl, ((((Below.refl _ _).alloc (Nat.le_refl _) _).alloc (by simp) _).alloc (by simp; omega) _).drew⟩)

theorem ahead_any (p m q n : Nat) (w : World) :
    Calls Tryd.prog 19 #[.agg #[.int .u32 p, .int .u8 m], .agg #[.int .u32 q, .int .u8 n]] w fun e w' => e = .returned (.bool (decide (p < q) || (p == q && decide (m < n)))) ∧ Below w.heap.size w w' := by
  rcases Nat.lt_trichotomy p q with h | h | h
  · go_enter Tryd.func19, Tryd.ntmps19
    go_wp2
    go_ret
    exact ⟨ret_bool (by simp [h]), ((Below.refl _ _).alloc (Nat.le_refl _) _).alloc (by simp) _⟩
  · subst h
    go_enter Tryd.func19, Tryd.ntmps19
    go_wp2
    go_ret
    exact ⟨ret_bool (by simp), ((Below.refl _ _).alloc (Nat.le_refl _) _).alloc (by simp) _⟩
  · have h2 : ¬ p < q := by omega
    have h3 : ((p : Int) == q) = false := by simp; omega
    have h4 : (p == q) = false := by simp; omega
    go_enter Tryd.func19, Tryd.ntmps19
    go_wp2
    go_ret
    exact ⟨ret_bool (by simp [h2, h4]), ((Below.refl _ _).alloc (Nat.le_refl _) _).alloc (by simp) _⟩

theorem rright_any (a n : Nat) (ha : a < 4294967296) (hn : n ≤ 255) (w : World) :
    Calls Tryd.prog 14 #[.agg #[.int .u32 a, .int .u8 n]] w fun e w' => e = .returned (.bool (right a n)) ∧ Below w.heap.size w w' := by
  by_cases h : n ≤ 32
  · have hrest : rest n = 32 - n := by unfold rest; omega
    go_enter Tryd.func14, Tryd.ntmps14
    go_wp2
    go_loop [3] (fun i => ∃ k : Nat, n ≤ k ∧ k ≤ 32 ∧ i = .int .i64 k ∧ (a % 2 ^ (32 - n) = 0 ↔ a % 2 ^ (32 - k) = 0)) (fun i => 32 - (intOf i).toNat)
    case atStart => exact ⟨n, by omega, by omega, rfl, Iff.rfl⟩
    case round =>
      obtain ⟨k, hk, hk2, rfl, hiff⟩ := hrel
      have HI := Lib.hid hiff
      have HR := Lib.hid hrest
      clear hiff hrest
      by_cases hlt : k < 32
      · cases hb : bit a k
        · go_wp2_with (go_at_call 20; refine (rbit_any a k ha (by omega) _).mono ?_; rintro e w' ⟨rfl, rfl⟩)
          go_round
          case rel => exact ⟨k + 1, by omega, by omega, by go_num, HI.out.trans ((mod_step a k hlt).trans ⟨fun h => h.2, fun h => ⟨hb, h⟩⟩)⟩
          case measure => simp [intOf]; omega
        · go_wp2_with (go_at_call 20; refine (rbit_any a k ha (by omega) _).mono ?_; rintro e w' ⟨rfl, rfl⟩)
          go_ret
          refine ⟨ret_bool ?_, (Below.refl _ _).alloc (Nat.le_refl _) _⟩
          have hno : ¬ a % 2 ^ (32 - n) = 0 := fun h0 => by
            have := (mod_step a k hlt).1 (HI.out.1 h0)
            rw [hb] at this; exact absurd this.1 (by decide)
          simp [right, HR.out, hno]
      · have e32 : 32 - k = 0 := by omega
        have hyes : a % 2 ^ (32 - n) = 0 := HI.out.2 (by rw [e32]; simp [Nat.mod_one])
        have HY := Lib.hid hyes
        clear hyes e32
        go_wp2
        go_ret
        exact ⟨ret_bool (by simp [right, HR.out, HY.out, h]), (Below.refl _ _).alloc (Nat.le_refl _) _⟩
  · go_enter Tryd.func14, Tryd.ntmps14
    go_wp2
    go_ret
    exact ⟨ret_bool (by simp [right, h]), (Below.refl _ _).alloc (Nat.le_refl _) _⟩

theorem rhas_any (p n b : Nat) (hp : p < 4294967296) (hn : n ≤ 32) (hb : b < 4294967296) (w : World) :
    Calls Tryd.prog 16 #[.agg #[.int .u32 p, .int .u8 n], .int .u32 b] w fun e w' => e = .returned (.bool (alike p b n)) ∧ Below w.heap.size w w' := by
  have hrest : rest n = 32 - n := by unfold rest; omega
  have HR := Lib.hid hrest
  clear hrest
  go_enter Tryd.func16, Tryd.ntmps16
  go_wp2
  go_loop [5] (fun i => ∃ k : Nat, k ≤ n ∧ i = .int .i64 k ∧ Hid (p / 2 ^ (32 - k) = b / 2 ^ (32 - k))) (fun i => 32 - (intOf i).toNat)
  case atStart => exact ⟨0, by omega, rfl, by show _ = _; rw [Nat.div_eq_of_lt (by simpa using hp), Nat.div_eq_of_lt (by simpa using hb)]⟩
  case round =>
    obtain ⟨k, hk, rfl, HA⟩ := hrel
    by_cases hlt : k < n
    · have hst := alike_step p b k (by omega) HA.out
      have HS := Lib.hid hst
      clear hst
      have hdn := fun h => alike_down p b (k + 1) n (by omega) hn h
      have HD := Lib.hid hdn
      clear hdn
      cases h1 : bit p k <;> cases h2 : bit b k
      · go_wp2_with (go_at_call 20; refine (rbit_any _ k (by assumption) (by omega) _).mono ?_; rintro e w' ⟨rfl, rfl⟩)
        go_round
        case rel => exact ⟨k + 1, by omega, by go_num, HS.out.2 (by rw [h1, h2])⟩
        case measure => simp [intOf]; omega
      · go_wp2_with (go_at_call 20; refine (rbit_any _ k (by assumption) (by omega) _).mono ?_; rintro e w' ⟨rfl, rfl⟩)
        go_ret
        refine ⟨ret_bool ?_, (Below.refl _ _).alloc (Nat.le_refl _) _⟩
        have hno : ¬ p / 2 ^ (32 - n) = b / 2 ^ (32 - n) := fun h => by
          have := HS.out.1 (HD.out h); rw [h1, h2] at this; cases this
        simp [alike, HR.out, hno]
      · go_wp2_with (go_at_call 20; refine (rbit_any _ k (by assumption) (by omega) _).mono ?_; rintro e w' ⟨rfl, rfl⟩)
        go_ret
        refine ⟨ret_bool ?_, (Below.refl _ _).alloc (Nat.le_refl _) _⟩
        have hno : ¬ p / 2 ^ (32 - n) = b / 2 ^ (32 - n) := fun h => by
          have := HS.out.1 (HD.out h); rw [h1, h2] at this; cases this
        simp [alike, HR.out, hno]
      · go_wp2_with (go_at_call 20; refine (rbit_any _ k (by assumption) (by omega) _).mono ?_; rintro e w' ⟨rfl, rfl⟩)
        go_round
        case rel => exact ⟨k + 1, by omega, by go_num, HS.out.2 (by rw [h1, h2])⟩
        case measure => simp [intOf]; omega
    · have hkn : k = n := by omega
      have HK := Lib.hid hkn
      clear hkn
      go_wp2
      go_ret
      exact ⟨ret_bool (by have := HA.out; rw [HK.out] at this; simp [alike, HR.out, this]), (Below.refl _ _).alloc (Nat.le_refl _) _⟩

theorem rof_core (a n L : Nat) (ha : a < 4294967296) (hL : L ≤ 32) (hn : n ≤ 255) (hnL : (n ≤ 32 ∧ n = L) ∨ (32 < n ∧ L = 32)) (w : World) :
    Calls Tryd.prog 12 #[.int .u32 a, .int .u8 n] w fun e w' => e = .returned (.agg #[.int .u32 (part a L 32 : Nat), .int .u8 L]) ∧ Below w.heap.size w w' := by
  rcases hnL with ⟨h, rfl⟩ | ⟨h, rfl⟩
  · go_enter Tryd.func12, Tryd.ntmps12
    go_wp2
    go_loop [5, 6] (fun o i => ∃ k : Nat, k ≤ 32 ∧ i = .int .i64 k ∧ o = .int .u32 (part a n k : Nat)) (fun _ i => 32 - (intOf i).toNat)
    case atStart => exact ⟨0, by omega, rfl, by rw [part_zero a n ha]; rfl⟩
    case round =>
      obtain ⟨k, hk, rfl, rfl⟩ := hrel
      by_cases hlt : k < 32
      · have hpl := part_lt a n k ha hlt
        by_cases hin : k < n
        · have hs := part_in a n k hlt hin
          cases hb : bit a k
          · rw [hb] at hs
            have HS := Lib.hid hs
            clear hs
            generalize part a n k = y at *
            go_wp2_with (go_at_call 20; refine (rbit_any _ k (by assumption) (by omega) _).mono ?_; rintro e w' ⟨rfl, rfl⟩)
            go_round
            case rel => exact ⟨k + 1, by omega, by go_num, by rw [HS.out]; simp; omega⟩
            case measure => simp [intOf]; omega
          · rw [hb] at hs
            have HS := Lib.hid hs
            clear hs
            generalize part a n k = y at *
            go_wp2_with (go_at_call 20; refine (rbit_any _ k (by assumption) (by omega) _).mono ?_; rintro e w' ⟨rfl, rfl⟩)
            go_round
            case rel => exact ⟨k + 1, by omega, by go_num, by rw [HS.out]; simp; omega⟩
            case measure => simp [intOf]; omega
        · have hs := part_out a n k (by omega)
          have HS := Lib.hid hs
          clear hs
          generalize part a n k = y at *
          go_wp2
          go_round
          case rel => exact ⟨k + 1, by omega, by go_num, by rw [HS.out]; simp; omega⟩
          case measure => simp [intOf]; omega
      · obtain rfl : k = 32 := by omega
        go_wp2
        exact bodyPost_ret (v := .agg #[.int .u32 (part a n 32 : Nat), .int .u8 n]) (by simp [results, Tryd.results12, go_sem]) rfl ⟨rfl, ((Below.refl _ _).alloc (Nat.le_refl _) _)⟩
  · have hd : decide (32 < (n : Int)) = true := by simp; omega
    go_enter Tryd.func12, Tryd.ntmps12
    go_wp2
    go_loop [5, 6] (fun o i => ∃ k : Nat, k ≤ 32 ∧ i = .int .i64 k ∧ o = .int .u32 (part a 32 k : Nat)) (fun _ i => 32 - (intOf i).toNat)
    case atStart => exact ⟨0, by omega, rfl, by rw [part_zero a 32 ha]; rfl⟩
    case round =>
      obtain ⟨k, hk, rfl, rfl⟩ := hrel
      by_cases hlt : k < 32
      · have hpl := part_lt a 32 k ha hlt
        by_cases hin : k < 32
        · have hs := part_in a 32 k hlt hin
          cases hb : bit a k
          · rw [hb] at hs
            have HS := Lib.hid hs
            clear hs
            generalize part a 32 k = y at *
            go_wp2_with (go_at_call 20; refine (rbit_any _ k (by assumption) (by omega) _).mono ?_; rintro e w' ⟨rfl, rfl⟩)
            go_round
            case rel => exact ⟨k + 1, by omega, by go_num, by rw [HS.out]; simp; omega⟩
            case measure => simp [intOf]; omega
          · rw [hb] at hs
            have HS := Lib.hid hs
            clear hs
            generalize part a 32 k = y at *
            go_wp2_with (go_at_call 20; refine (rbit_any _ k (by assumption) (by omega) _).mono ?_; rintro e w' ⟨rfl, rfl⟩)
            go_round
            case rel => exact ⟨k + 1, by omega, by go_num, by rw [HS.out]; simp; omega⟩
            case measure => simp [intOf]; omega
        · exact absurd hlt hin
      · obtain rfl : k = 32 := by omega
        go_wp2
        exact bodyPost_ret (v := .agg #[.int .u32 (part a 32 32 : Nat), .int .u8 32]) (by simp [results, Tryd.results12, go_sem]) rfl ⟨rfl, ((Below.refl _ _).alloc (Nat.le_refl _) _)⟩

theorem rof_any (a n : Nat) (ha : a < 4294967296) (hn : n ≤ 255) (w : World) :
    Calls Tryd.prog 12 #[.int .u32 a, .int .u8 n] w fun e w' => e = .returned (.agg #[.int .u32 (top a n : Nat), .int .u8 (len n : Nat)]) ∧ Below w.heap.size w w' := by
  rw [← part_end a n]
  exact rof_core a n (len n) ha (len_le n) hn (by unfold len; omega) w
end Go.Proofs.YtdfphpoakihkdaaDoor.Pre
