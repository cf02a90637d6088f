/- Contracts of package prefix's Text: the four bytes and the length, decimal, with their marks. -/
import Derived.Test.YtdfphpoakihkdaaDoorRows
import Derived.Test.YtdfphpoakihkdaaDoorShelf
import Derived.WalkKit
import Derived.ProofKit
import Derived.OpenShut
import Derived.ShutString
import Derived.OwnWalk
import Derived.Lib.Hide
import Derived.Handy
import Derived.Maps.AppendAt
import Derived.Lib.SmallJoins
import Derived.Laws.IdiomStrings
namespace Go.Proofs.YtdfphpoakihkdaaDoor.Pre
open Go.ChangeShapes Go.WideShapes Go.ChangeAt Go.RowKit

def Pow (w : World) : Prop := Lib.TabIs Tryd.prog w "internal/strconv.uint64pow10" .u64 Lib.pow10Tab

theorem appendUint_any (B n u : Nat) (hu : u < 256) (sv : Value) (xs : List Value) (w : World) (hown : w.ownsRow B 5 1 sv n xs) (hBw : B ≤ w.heap.size) (hlim : n + 20 ≤ 140737488355328) (htab : Pow w) :
    Calls Tryd.prog 31 #[sv, .int .u64 u, .int .i64 10] w fun e w' => ∃ v', e = .returned v' ∧ w'.ownsRow B 5 1 v' (n + (Lib.decDigits u).length) (xs ++ Lib.byteCells (Lib.decDigits u)) ∧ Below B w w' := by
  go_enter Tryd.func31, Tryd.ntmps31
  go_wp2_with (go_at_call 37; refine (Tryd.internal_strconv_AppendUint_10 B n u (by omega) sv xs _ hown hBw hlim htab).mono ?_; rintro e w' ⟨v', rfl, hown', hb, _⟩)
  go_ret
  exact ⟨_, rfl, hown', hb⟩

theorem appendUint_int (B n : Nat) (u : Int) (hu0 : 0 ≤ u) (hu : u < 256) (sv : Value) (xs : List Value) (w : World) (hown : w.ownsRow B 5 1 sv n xs) (hBw : B ≤ w.heap.size) (hlim : n + 20 ≤ 140737488355328) (htab : Pow w) :
    Calls Tryd.prog 31 #[sv, .int .u64 u, .int .i64 10] w fun e w' => ∃ v', e = .returned v' ∧ w'.ownsRow B 5 1 v' (n + (Lib.decDigits u.toNat).length) (xs ++ Lib.byteCells (Lib.decDigits u.toNat)) ∧ Below B w w' := by
  obtain ⟨m, rfl⟩ := Int.eq_ofNat_of_zero_le hu0
  simpa using appendUint_any B n m (by omega) sv xs w hown hBw hlim htab

theorem pow_below {W W' : World} {B : Nat} (h : Pow W) (hb : Below B W W') (h0 : 0 < B) : Pow W' := by
  unfold Pow Lib.TabIs World.var? at h ⊢
  rw [show Tryd.prog.globalNamed "internal/strconv.uint64pow10" = some 0 by kernel_rfl] at h ⊢
  simp only [Option.bind_some] at h ⊢
  rw [hb.block 0 h0]; exact h

theorem pow_size {W : World} (h : Pow W) : 0 < W.heap.size := by
  unfold Pow Lib.TabIs World.var? at h
  rw [show Tryd.prog.globalNamed "internal/strconv.uint64pow10" = some 0 by kernel_rfl] at h
  simp only [Option.bind_some] at h
  rcases Nat.eq_zero_or_pos W.heap.size with h0 | h0
  · rw [Array.getElem?_eq_none (by omega)] at h; cases h
  · exact h0

/-- The five numbers' bytes, as far as k rounds have come. -/
def pre (x0 x1 x2 x3 x4 : Int) : Nat → List UInt8
  | 0 => []
  | 1 => Lib.decDigits x0.toNat
  | 2 => Lib.decDigits x0.toNat ++ [46] ++ Lib.decDigits x1.toNat
  | 3 => Lib.decDigits x0.toNat ++ [46] ++ Lib.decDigits x1.toNat ++ [46] ++ Lib.decDigits x2.toNat
  | 4 => Lib.decDigits x0.toNat ++ [46] ++ Lib.decDigits x1.toNat ++ [46] ++ Lib.decDigits x2.toNat ++ [46] ++ Lib.decDigits x3.toNat
  | _ => Lib.decDigits x0.toNat ++ [46] ++ Lib.decDigits x1.toNat ++ [46] ++ Lib.decDigits x2.toNat ++ [46] ++ Lib.decDigits x3.toNat ++ [47] ++ Lib.decDigits x4.toNat

/-- The counter as the frame has it, and as the proof has it. -/
def At (z : Int) (k : Nat) : Prop := (z = 0 ∧ k = 0) ∨ (z = 1 ∧ k = 1) ∨ (z = 2 ∧ k = 2) ∨ (z = 3 ∧ k = 3) ∨ (z = 4 ∧ k = 4) ∨ (z = 5 ∧ k = 5)

/-- What a round of Text's loop leaves. -/
def Row (B k : Nat) (x0 x1 x2 x3 x4 : Int) (v : Value) (w : World) : Prop :=
  ∃ N, N ≤ 25 * k ∧ w.ownsRow B 5 1 v N (Lib.byteCells (pre x0 x1 x2 x3 x4 k)) ∧ B ≤ w.heap.size ∧ Pow w

theorem dec_len (x : Int) (h : x < 256) : (Lib.decDigits x.toNat).length ≤ 20 := by
  rw [Lib.decDigits_length]
  by_cases h1 : x.toNat < 10
  · rw [Lib.nDigits_small h1]; omega
  · rw [Lib.nDigits_big h1]
    by_cases h2 : x.toNat / 10 < 10
    · rw [Lib.nDigits_small h2]; omega
    · rw [Lib.nDigits_big h2, Lib.nDigits_small (by omega)]; omega

theorem row_next {B k : Nat} {x0 x1 x2 x3 x4 : Int} {v : Value} {w : World} {N : Nat} {xs : List Value} (h : w.ownsRow B 5 1 v N xs) (hx : xs = Lib.byteCells (pre x0 x1 x2 x3 x4 k)) (hN : N ≤ 25 * k) (hB : B ≤ w.heap.size) (hp : Pow w) : Row B k x0 x1 x2 x3 x4 v w :=
  ⟨N, hN, hx ▸ h, hB, hp⟩

/-- The bytes of Text. -/
def text (a n : Int) : List UInt8 := pre (a / 16777216) (a / 65536 % 256) (a / 256 % 256) (a % 256) n 5

set_option maxHeartbeats 4000000 in
theorem text_any (a n : Int) (ha : 0 ≤ a ∧ a ≤ 4294967295) (hn : 0 ≤ n ∧ n ≤ 255) (w : World) (htab : Pow w) :
    Calls Tryd.prog 23 #[.agg #[.int .u32 a, .int .u8 n]] w fun e w' => e = .returned (.string ⟨(text a n).toArray⟩) ∧ Below w.heap.size w w' := by
  obtain ⟨i0, hi, hz0, hz1, hz2⟩ := info_parts (P := Tryd.prog) (e := 5) (z := .int .u8 0) (size := 1) (bytes := 1) (by kernel_rfl)
  have h0 : 0 < w.heap.size := pow_size htab
  have hix0 : ∀ (x0 x1 x2 x3 x4 : Value) (w : World), (Instr.index 50 (.agg #[x0, x1, x2, x3, x4]) (.int .i64 0)).run Tryd.prog w = .ok x0 w := fun _ _ _ _ _ _ => by kernel_rfl
  have hix1 : ∀ (x0 x1 x2 x3 x4 : Value) (w : World), (Instr.index 50 (.agg #[x0, x1, x2, x3, x4]) (.int .i64 1)).run Tryd.prog w = .ok x1 w := fun _ _ _ _ _ _ => by kernel_rfl
  have hix2 : ∀ (x0 x1 x2 x3 x4 : Value) (w : World), (Instr.index 50 (.agg #[x0, x1, x2, x3, x4]) (.int .i64 2)).run Tryd.prog w = .ok x2 w := fun _ _ _ _ _ _ => by kernel_rfl
  have hix3 : ∀ (x0 x1 x2 x3 x4 : Value) (w : World), (Instr.index 50 (.agg #[x0, x1, x2, x3, x4]) (.int .i64 3)).run Tryd.prog w = .ok x3 w := fun _ _ _ _ _ _ => by kernel_rfl
  have hix4 : ∀ (x0 x1 x2 x3 x4 : Value) (w : World), (Instr.index 50 (.agg #[x0, x1, x2, x3, x4]) (.int .i64 4)).run Tryd.prog w = .ok x4 w := fun _ _ _ _ _ _ => by kernel_rfl
  have hmk0 : ∀ (w : World), (Instr.index 9 (.string ⟨#[46, 46, 46, 47]⟩) (.int .i64 0)).run Tryd.prog w = .ok (.int .u8 46) w := fun _ => by kernel_rfl
  have hmk1 : ∀ (w : World), (Instr.index 9 (.string ⟨#[46, 46, 46, 47]⟩) (.int .i64 1)).run Tryd.prog w = .ok (.int .u8 46) w := fun _ => by kernel_rfl
  have hmk2 : ∀ (w : World), (Instr.index 9 (.string ⟨#[46, 46, 46, 47]⟩) (.int .i64 2)).run Tryd.prog w = .ok (.int .u8 46) w := fun _ => by kernel_rfl
  have hmk3 : ∀ (w : World), (Instr.index 9 (.string ⟨#[46, 46, 46, 47]⟩) (.int .i64 3)).run Tryd.prog w = .ok (.int .u8 47) w := fun _ => by kernel_rfl
  go_enter Tryd.func23, Tryd.ntmps23
  go_wp2
  go_loopw [4, 26] (fun t i wr => ∃ (z : Int) (k : Nat), At z k ∧ i = .int .i64 z ∧ Row (w.heap.size + 2) k (a / 16777216) (a / 65536 % 256) (a / 256 % 256) (a % 256) n t wr ∧ Below w.heap.size w wr) (fun _ i _ => 5 - (intOf i).toNat)
  case atStart =>
    exact ⟨0, 0, by unfold At; omega, rfl, ⟨0, by omega, World.ownsRow_nil _ _ _ _, by simp, pow_below htab (((Below.refl _ _).alloc (Nat.le_refl _) _).alloc (by simp) _) h0⟩, ((Below.refl _ _).alloc (Nat.le_refl _) _).alloc (by simp) _⟩
  case round =>
    obtain ⟨z, k, hk, rfl, ⟨N, hN, hown, hB, hpow⟩, hbel⟩ := hrel
    rcases hk with ⟨rfl, rfl⟩ | ⟨rfl, rfl⟩ | ⟨rfl, rfl⟩ | ⟨rfl, rfl⟩ | ⟨rfl, rfl⟩ | ⟨rfl, rfl⟩
    · go_wp2_with (go_at_call 31; refine (appendUint_int (w.heap.size + 2) N _ (by omega) (by omega) _ _ wr hown hB (by omega) hpow).mono ?_; rintro e w' ⟨v', rfl, hown', hb⟩)
      go_roundw
      case rel => exact ⟨1, 1, by unfold At; omega, rfl, row_next hown' (by simp [pre, Lib.byteCells]) (by have := dec_len (a / 16777216) (by omega); omega) (Nat.le_trans hB hb.size) (pow_below hpow hb (by omega)), hbel.trans (hb.mono (by omega))⟩
      case measure => simp [intOf]
    · go_wp2_with (first
        | (at_builtin; refine wpList_append_own _ rfl _ _ 41 rfl (w.heap.size + 2) 5 i0 (.int .u8 0) 1 1 Tryd.underlying41 hi hz0 hz1 hz2 rfl (by decide) _ _ _ rfl (hown.alloc _) ⟨wr.heap.size, 0, none⟩ 1 1 [.int .u8 46] rfl rfl (Go.cell_one_new _ _ _) (fun x hx => by simp at hx; subst hx; rfl) (by unfold maxLen; omega) (by omega) (by simp; omega) ?_; intro v3 w3 hown3 hgrow3 hnil3)
        | (go_at_call 31; have hb3 : Below (w.heap.size + 2) wr w3 := ((Below.refl _ wr).alloc hB _).grown hgrow3 (by simp; omega) (fun k hk => (hown.lt k hk).1); refine (appendUint_int (w.heap.size + 2) (N + 1) _ (by omega) (by omega) _ _ w3 hown3 (Nat.le_trans hB hb3.size) (by omega) (pow_below hpow hb3 (by omega))).mono ?_; rintro e w' ⟨v', rfl, hown', hb⟩))
      go_roundw
      case rel => exact ⟨2, 2, by unfold At; omega, rfl, row_next hown' (by simp [pre, Lib.byteCells]) (by have := dec_len (a / 65536 % 256) (by omega); omega) (Nat.le_trans (Nat.le_trans hB hb3.size) hb.size) (pow_below hpow (hb3.trans hb) (by omega)), hbel.trans ((hb3.trans hb).mono (by omega))⟩
      case measure => simp [intOf]
    · go_wp2_with (first
        | (at_builtin; refine wpList_append_own _ rfl _ _ 41 rfl (w.heap.size + 2) 5 i0 (.int .u8 0) 1 1 Tryd.underlying41 hi hz0 hz1 hz2 rfl (by decide) _ _ _ rfl (hown.alloc _) ⟨wr.heap.size, 0, none⟩ 1 1 [.int .u8 46] rfl rfl (Go.cell_one_new _ _ _) (fun x hx => by simp at hx; subst hx; rfl) (by unfold maxLen; omega) (by omega) (by simp; omega) ?_; intro v3 w3 hown3 hgrow3 hnil3)
        | (go_at_call 31; have hb3 : Below (w.heap.size + 2) wr w3 := ((Below.refl _ wr).alloc hB _).grown hgrow3 (by simp; omega) (fun k hk => (hown.lt k hk).1); refine (appendUint_int (w.heap.size + 2) (N + 1) _ (by omega) (by omega) _ _ w3 hown3 (Nat.le_trans hB hb3.size) (by omega) (pow_below hpow hb3 (by omega))).mono ?_; rintro e w' ⟨v', rfl, hown', hb⟩))
      go_roundw
      case rel => exact ⟨3, 3, by unfold At; omega, rfl, row_next hown' (by simp [pre, Lib.byteCells]) (by have := dec_len (a / 256 % 256) (by omega); omega) (Nat.le_trans (Nat.le_trans hB hb3.size) hb.size) (pow_below hpow (hb3.trans hb) (by omega)), hbel.trans ((hb3.trans hb).mono (by omega))⟩
      case measure => simp [intOf]
    · go_wp2_with (first
        | (at_builtin; refine wpList_append_own _ rfl _ _ 41 rfl (w.heap.size + 2) 5 i0 (.int .u8 0) 1 1 Tryd.underlying41 hi hz0 hz1 hz2 rfl (by decide) _ _ _ rfl (hown.alloc _) ⟨wr.heap.size, 0, none⟩ 1 1 [.int .u8 46] rfl rfl (Go.cell_one_new _ _ _) (fun x hx => by simp at hx; subst hx; rfl) (by unfold maxLen; omega) (by omega) (by simp; omega) ?_; intro v3 w3 hown3 hgrow3 hnil3)
        | (go_at_call 31; have hb3 : Below (w.heap.size + 2) wr w3 := ((Below.refl _ wr).alloc hB _).grown hgrow3 (by simp; omega) (fun k hk => (hown.lt k hk).1); refine (appendUint_int (w.heap.size + 2) (N + 1) _ (by omega) (by omega) _ _ w3 hown3 (Nat.le_trans hB hb3.size) (by omega) (pow_below hpow hb3 (by omega))).mono ?_; rintro e w' ⟨v', rfl, hown', hb⟩))
      go_roundw
      case rel => exact ⟨4, 4, by unfold At; omega, rfl, row_next hown' (by simp [pre, Lib.byteCells]) (by have := dec_len (a % 256) (by omega); omega) (Nat.le_trans (Nat.le_trans hB hb3.size) hb.size) (pow_below hpow (hb3.trans hb) (by omega)), hbel.trans ((hb3.trans hb).mono (by omega))⟩
      case measure => simp [intOf]
    · go_wp2_with (first
        | (at_builtin; refine wpList_append_own _ rfl _ _ 41 rfl (w.heap.size + 2) 5 i0 (.int .u8 0) 1 1 Tryd.underlying41 hi hz0 hz1 hz2 rfl (by decide) _ _ _ rfl (hown.alloc _) ⟨wr.heap.size, 0, none⟩ 1 1 [.int .u8 47] rfl rfl (Go.cell_one_new _ _ _) (fun x hx => by simp at hx; subst hx; rfl) (by unfold maxLen; omega) (by omega) (by simp; omega) ?_; intro v3 w3 hown3 hgrow3 hnil3)
        | (go_at_call 31; have hb3 : Below (w.heap.size + 2) wr w3 := ((Below.refl _ wr).alloc hB _).grown hgrow3 (by simp; omega) (fun k hk => (hown.lt k hk).1); refine (appendUint_int (w.heap.size + 2) (N + 1) _ (by omega) (by omega) _ _ w3 hown3 (Nat.le_trans hB hb3.size) (by omega) (pow_below hpow hb3 (by omega))).mono ?_; rintro e w' ⟨v', rfl, hown', hb⟩))
      go_roundw
      case rel => exact ⟨5, 5, by unfold At; omega, rfl, row_next hown' (by simp [pre, Lib.byteCells]) (by have := dec_len n (by omega); omega) (Nat.le_trans (Nat.le_trans hB hb3.size) hb.size) (pow_below hpow (hb3.trans hb) (by omega)), hbel.trans ((hb3.trans hb).mono (by omega))⟩
      case measure => simp [intOf]
    · generalize hl : pre (a / 16777216) (a / 65536 % 256) (a / 256 % 256) (a % 256) n 5 = l at hown
      have hlen : N = l.length := by have := hown.1; simp [Lib.byteCells] at this; omega
      have hpos : 0 < N := by rw [hlen, ← hl]; simp [pre]; omega
      obtain ⟨g, cap, hv⟩ := Joins.ownsRow_form hown hpos
      subst hlen
      have hcv := run_convert_bytes_back (P := Tryd.prog) wr 41 9 5 ⟨g, 0, none⟩ cap l Tryd.underlying41 Tryd.underlying5 Tryd.underlying9 (fun j hj => by
        refine hown.cells (g := g) (by rw [hv]; rfl) j _ ?_
        simp [Lib.byteCells, hj])
      have hfin : text a n = l := hl
      clear hown hpow hpos hl
      have HV := Lib.hid hv
      have HF := Lib.hid hfin
      clear hfin
      subst hv
      go_wp2
      go_ret
      exact ⟨by rw [HF.out]; rfl, hbel⟩
end Go.Proofs.YtdfphpoakihkdaaDoor.Pre
