/- What tally's sums are, and the document's own. -/
import Derived.Test.YtecfblkagbdjlaaTLin
import Derived.Lib.SlBytesConst
namespace Go.Proofs.Ytecfblkagbdjlaa.Tal
open Go.ChangeShapes Go.WideShapes Go.ChangeAt Go.RowKit

def b8 (b : UInt8) : Value := .int .u8 (b.toNat : Int)
/-- A slice's cells, below block B, read as these bytes. -/
def Rd (w : World) (B : Nat) (A : Option Addr) (l : List UInt8) : Prop := 0 < l.length → ∃ ad : Addr, A = some ad ∧ ad.block < B ∧ ∀ j (hj : j < l.length), w.cell? (ad.add j) = some (b8 l[j])
theorem blk_add (a : Addr) (n : Nat) : (a.add n).block = a.block := by unfold Addr.add; split <;> rfl
theorem Rd.keep {w w' : World} {B : Nat} {A : Option Addr} {l : List UInt8} (h : Rd w B A l) (hk : ∀ p : Addr, p.block < B → w'.cell? p = w.cell? p) : Rd w' B A l := fun h0 => by
  obtain ⟨ad, e, hb, hc⟩ := h h0
  exact ⟨ad, e, hb, fun j hj => (hk _ (by rw [blk_add]; exact hb)).trans (hc j hj)⟩
theorem Rd.below {w w' : World} {B B' : Nat} {A : Option Addr} {l : List UInt8} (h : Rd w B A l) (hb : Below B' w w') (hB : B ≤ B') : Rd w' B A l := h.keep fun _ hp => hb.cell (Nat.lt_of_lt_of_le hp hB)
theorem Rd.more {w : World} {B B' : Nat} {A : Option Addr} {l : List UInt8} (h : Rd w B A l) (hB : B ≤ B') : Rd w B' A l := fun h0 => by
  obtain ⟨ad, e, hb, hc⟩ := h h0
  exact ⟨ad, e, Nat.lt_of_lt_of_le hb hB, hc⟩
theorem Rd.nil (w : World) (B : Nat) (A : Option Addr) : Rd w B A [] := fun h => by simp at h

theorem not_u32 (x : Nat) (h : x < 4294967296) : bits .xor .u32 IntKind.u32.max (x : Int) = ((4294967295 - x : Nat) : Int) := by
  have e : IntKind.u32.max = ((4294967295 : Nat) : Int) := by rfl
  rw [e, u32_xor_nat 4294967295 x (by decide) h]
  congr 1
  apply Nat.eq_of_testBit_eq
  intro i
  have h1 : (4294967295 : Nat) = 2 ^ 32 - 1 := by decide
  rw [Nat.testBit_xor, h1, Nat.testBit_two_pow_sub_one, Nat.sub_sub, Nat.add_comm 1, Nat.testBit_two_pow_sub_succ (by omega)]
  by_cases hi : i < 32
  · simp [hi]
  · have : x.testBit i = false := Nat.testBit_lt_two_pow (Nat.lt_of_lt_of_le h (by
      have := Nat.pow_le_pow_right (n := 2) (by decide) (show 32 ≤ i by omega)
      omega))
    simp [hi, this]
def MoreSaid (w : World) (v : Nat) (e : Ending) (w' : World) : Prop := e = .returned (.int .u32 (v : Nat)) ∧ Below w.heap.size w w'
set_option maxRecDepth 100000 in
theorem more_any (s : Nat) (hs : s < 4294967296) (A : Option Addr) (cap : Nat) (l : List UInt8) (w : World) (hl : l.length ≤ 1000000) (hr : Rd w w.heap.size A l) :
    Calls Try.prog 46 #[.int .u32 s, .slice A l.length cap] w (MoreSaid w (more s l)) := by
  have hz := zero33
  have hn := not_u32 s hs
  obtain ⟨m, hm⟩ : ∃ m, m = l.length := ⟨_, rfl⟩
  rw [← hm]
  have HM := Lib.hid hm
  have hm9 : m ≤ 1000000 := by omega
  have HMO := Lib.hid (show more s l = 4294967295 - crc (4294967295 - s) (l.take l.length) by rw [List.take_length]; rfl)
  rw [← hm] at HMO
  have hr0 : 4294967295 - s < 4294967296 := by omega
  clear hm hl
  generalize 4294967295 - s = r at *
  generalize more s l = V at *
  go_enter Try.func46, Try.ntmps46
  go_wp2_with fail
  refine (lines_any _).mono ?_
  rintro e w1 ⟨rfl, B1⟩
  have r0 : Row (w1.alloc (.cells (cellsOf fun _ => 0) 87)) w1.heap.size (fun _ => 0) := heap_alloc_new w1 _
  have b0 : Below w.heap.size w (w1.alloc (.cells (cellsOf fun _ => 0) 87)) := B1.alloc B1.size _
  have hsz := B1.size
  go_wp2_with (with_reducible refine store_row rfl (.tmp 5) (.tmp 8) rfl w1.heap.size tab (fun _ => 0) rfl rfl r0 w.heap.size w b0 hsz ?_; intro w2 R3 B3 _ _)
  have R2 : Rd w2 w.heap.size A l := hr.below B3 (Nat.le_refl _)
  generalize w1.heap.size = g at *
  clear r0 b0 hz hr
  go_loop [0, 13] (fun t i => ∃ k : Nat, k ≤ m ∧ i = .int .i64 k ∧ ∃ x : Nat, t = .int .u32 x ∧ x < 4294967296 ∧ Hid (x = crc r (l.take k))) (fun _ i => m - (intOf i).toNat)
  case atStart => exact ⟨0, by omega, rfl, r, rfl, hr0, show _ = _ by simp [crc]⟩
  case round =>
    obtain ⟨k, hk, rfl, x, rfl, hx, HX⟩ := hrel
    by_cases hlt : k < m
    · have hk' : k < l.length := by rw [← HM.out]; exact hlt
      obtain ⟨ad, rfl, _, hc⟩ := R2 (by omega)
      have hcell : w2.cell? (ad.add k) = some (.int .u8 ((l[k]).toNat : Int)) := hc k hk'
      have hb : (l[k]).toNat < 256 := UInt8.toNat_lt _
      have HS : Hid (step x l[k] = crc r (l.take (k + 1))) := by show _ = _; rw [List.take_succ_eq_append_getElem hk', crc_snoc, ← HX.out]
      have hst := step_eq x l[k]
      have hsl := step_lt x l[k] hx
      generalize step x l[k] = y at *
      generalize (l[k]).toNat = b at *
      have hxb : bits .xor .u8 ((x : Int) % 256) (b : Int) = ((x % 256 ^^^ b : Nat) : Int) := by
        have := u8_xor_nat (x % 256) b (by omega) hb
        rw [← this]; simp
      have hcl : x % 256 ^^^ b < 256 := Nat.xor_lt_two_pow (n := 8) (by omega) hb
      have htc := R3.cell (x % 256 ^^^ b) hcl
      have htl := tab_lt (x % 256 ^^^ b) hcl
      have hxr := u32_xor_nat (x / 256) (tab (x % 256 ^^^ b)) (by omega) htl
      rw [← hst] at hxr
      have hxr' : bits .xor .u32 ((x : Int) / 256) (tab (x % 256 ^^^ b) : Nat) = (y : Int) := by rw [← hxr]; simp
      clear hst hxr hc R2 R3
      generalize tab (x % 256 ^^^ b) = tc at *
      generalize x % 256 ^^^ b = c at *
      go_wp2_with fail
      go_round
      case rel => exact ⟨k + 1, by omega, by go_num, y, rfl, hsl, HS⟩
      case measure => simp [intOf]; omega
    · obtain rfl : k = m := by omega
      have hnx := not_u32 x hx
      have HV : Hid (V = 4294967295 - x) := by show _ = _; rw [HMO.out, ← HX.out]
      go_wp2_with fail
      go_ret
      exact ⟨ret_int (by rw [HV.out]), B3⟩
theorem sum_any (A : Option Addr) (cap : Nat) (l : List UInt8) (w : World) (hl : l.length ≤ 1000000) (hr : Rd w w.heap.size A l) :
    Calls Try.prog 36 #[.slice A l.length cap] w (MoreSaid w (more 0 l)) := by
  have c := more_any 0 (by decide) A cap l w hl hr
  generalize more 0 l = V at *
  generalize l.length = m at *
  go_enter Try.func36, Try.ntmps36
  go_wp2_with fail
  refine c.mono ?_
  rintro e w1 ⟨rfl, B1⟩
  go_wp2_with fail
  go_ret
  exact ⟨rfl, B1⟩

theorem low_bit (x e : Nat) (he : e < 2) : (x % 2 = e → low (x ^^^ e) = x / 2) ∧ (x % 2 ≠ e → low (x ^^^ e) = x / 2 ^^^ 2197175160) := by
  have hd : (x ^^^ e) / 2 = x / 2 := by rw [Nat.xor_div_two, show e / 2 = 0 by omega, Nat.xor_zero]
  have hm := xor_mod2 x e
  unfold low
  rw [hd, hm]
  constructor
  · intro h; rw [if_neg (by omega)]
  · intro h; rw [if_pos (by omega)]
set_option maxRecDepth 100000 in
theorem rsum_any (A : Option Addr) (cap B : Nat) (l : List UInt8) (w : World) (hl : l.length ≤ 1000000) (hr : Rd w B A l) :
    Calls Try.prog 31 #[.slice A l.length cap] w fun e w' => e = .returned (.int .u32 (more 0 l : Nat)) ∧ w = w' := by
  obtain ⟨m, hm⟩ : ∃ m, m = l.length := ⟨_, rfl⟩
  rw [← hm]
  have HM := Lib.hid hm
  have hm9 : m ≤ 1000000 := by omega
  have HMO := Lib.hid (show more 0 l = 4294967295 - feed (bitAt l) 4294967295 (8 * l.length) by rw [← crc_feed]; rfl)
  rw [← hm] at HMO
  clear hm hl
  generalize more 0 l = V at *
  go_enter Try.func31, Try.ntmps31
  go_wp2_with fail
  go_loop [3, 4] (fun t i => ∃ k : Nat, k ≤ 8 * m ∧ i = .int .i64 k ∧ ∃ x : Nat, t = .int .u32 x ∧ x < 4294967296 ∧ Hid (x = feed (bitAt l) 4294967295 k)) (fun _ i => 8 * m - (intOf i).toNat)
  case atStart => exact ⟨0, by omega, rfl, 4294967295, rfl, by omega, rfl⟩
  case round =>
    obtain ⟨k, hk, rfl, x, rfl, hx, HX⟩ := hrel
    by_cases hlt : k < 8 * m
    · have hk' : k / 8 < l.length := by have := HM.out; omega
      obtain ⟨ad, rfl, _, hc⟩ := hr (by omega)
      have hcell : w.cell? (ad.add (k / 8)) = some (.int .u8 ((l[k / 8]).toNat : Int)) := hc (k / 8) hk'
      have hb : (l[k / 8]).toNat < 256 := UInt8.toNat_lt _
      have hbt : bitAt l k = (l[k / 8]).toNat / 2 ^ (k % 8) % 2 := by unfold bitAt; simp [List.getD, hk']
      have HS : Hid (low (x ^^^ bitAt l k) = feed (bitAt l) 4294967295 (k + 1)) := by show _ = _; rw [feed, ← HX.out]
      generalize (l[k / 8]).toNat = b at *
      have hz : ((b : Int) / 2 ^ (k % 8)) = ((b / 2 ^ (k % 8) : Nat) : Int) := by simp
      have hzl : b / 2 ^ (k % 8) < 256 := Nat.lt_of_le_of_lt (Nat.div_le_self _ _) hb
      rw [hbt] at HS
      generalize b / 2 ^ (k % 8) = z at *
      obtain ⟨hl1, hl2⟩ := low_bit x (z % 2) (by omega)
      have hlo : low (x ^^^ z % 2) < 4294967296 := low_lt _ (Nat.xor_lt_two_pow (n := 32) (by omega) (by omega))
      clear hc hbt
      by_cases he : x % 2 = z % 2
      · have e1 := hl1 he
        rw [e1] at HS hlo
        have hne : (((x : Int) % 2) != ((z : Int) % 2)) = false := by simp; omega
        clear hl1 hl2 e1
        go_wp2_with fail
        go_round
        case rel => exact ⟨k + 1, by omega, by go_num, x / 2, by go_num, hlo, HS⟩
        case measure => simp [intOf]; omega
      · have e1 := hl2 he
        rw [e1] at HS hlo
        have hne : (((x : Int) % 2) != ((z : Int) % 2)) = true := by simp; omega
        have hxr : bits .xor .u32 ((x : Int) / 2) 2197175160 = ((x / 2 ^^^ 2197175160 : Nat) : Int) := by
          have := u32_xor_nat (x / 2) 2197175160 (by omega) (by decide)
          exact this
        generalize x / 2 ^^^ 2197175160 = y at *
        clear hl1 hl2 e1
        go_wp2_with fail
        go_round
        case rel => exact ⟨k + 1, by omega, by go_num, y, rfl, hlo, HS⟩
        case measure => simp [intOf]; omega
    · obtain rfl : k = 8 * m := by omega
      have HV : Hid (V = 4294967295 - x) := by show _ = _; rw [HMO.out, ← HX.out]
      go_wp2_with fail
      go_ret
      exact ⟨ret_int (by rw [HV.out]; omega), rfl⟩

end Go.Proofs.Ytecfblkagbdjlaa.Tal
