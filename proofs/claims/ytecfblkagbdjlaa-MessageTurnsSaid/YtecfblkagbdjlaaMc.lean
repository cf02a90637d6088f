/- Contracts: numbersOf. -/
import Derived.Test.YtecfblkagbdjlaaMb
namespace Go.Proofs.Ytecfblkagbdjlaa.Msg
open Go.ChangeShapes Go.WideShapes Go.ChangeAt Go.RowKit
open Coin (coin sz b8 Rd Row Own CoinOwn put_any sz_le length_coin)
set_option maxRecDepth 8000

theorem wrap_u64 (n : Int) : IntKind.u64.wrap n = n % 18446744073709551616 := by
  have := Int.emod_nonneg n (show (18446744073709551616 : Int) ≠ 0 by decide)
  simp [IntKind.wrap, IntKind.bits, IntKind.signed]
/-- What numbersOf answers. -/
def NumSaid (w : World) (ns : List Nat) (e : Ending) (w' : World) : Prop := ∃ b, e = .returned (.slice (some ⟨b, 0, none⟩) ns.length ns.length) ∧ w'.heap[b]? = some (.cells (ns.map fun n : Nat => Value.int .u64 (n : Int)).toArray 22 (0, 0)) ∧ Below w.heap.size w w'
theorem nums1 (n d a l s m : Nat) (hd : d < 16) (ha : a < 4294967296) (hl : l < 256) (hs : s < 65536) (hm : m < 65536) (w : World) : Calls Try.prog 35 #[.agg #[.int .u8 1, .int .u64 (n : Int), .int .i64 (d : Int), .int .u32 (a : Int), .int .u8 (l : Int), .int .u16 (s : Int), .int .u16 (m : Int)]] w (NumSaid w [n]) := by
  have B0 := Lib.hid ((Below.refl w.heap.size w).alloc (Nat.le_refl _) (.cells #[.int .u8 1, .int .u64 (n : Int), .int .i64 (d : Int), .int .u32 (a : Int), .int .u8 (l : Int), .int .u16 (s : Int), .int .u16 (m : Int)] 28))
  have B1 := Lib.hid (B0.out.alloc (by simp) (.cells #[.int .u64 (n : Int)] 22))
  have R1' := heap_alloc_new (w.alloc (.cells #[.int .u8 1, .int .u64 (n : Int), .int .i64 (d : Int), .int .u32 (a : Int), .int .u8 (l : Int), .int .u16 (s : Int), .int .u16 (m : Int)] 28)) (.cells #[.int .u64 (n : Int)] 22)
  rw [show (w.alloc (.cells #[.int .u8 1, .int .u64 (n : Int), .int .i64 (d : Int), .int .u32 (a : Int), .int .u8 (l : Int), .int .u16 (s : Int), .int .u16 (m : Int)] 28)).heap.size = w.heap.size + 1 by simp] at R1'
  have R1 := Lib.hid R1'
  clear R1'
  have hw1 : IntKind.u64.wrap (d : Int) = d := by rw [wrap_u64]; omega
  have hw2 : IntKind.u64.wrap (m : Int) = m := by rw [wrap_u64]; omega
  have hw3 : IntKind.u64.wrap (a : Int) = a := by rw [wrap_u64]; omega
  have hw4 : IntKind.u64.wrap (l : Int) = l := by rw [wrap_u64]; omega
  have hw5 : IntKind.u64.wrap (s : Int) = s := by rw [wrap_u64]; omega
  go_enter Try.func35, Try.ntmps35
  go_wp2
  go_ret
  exact ⟨_, rfl, R1.out, B1.out⟩
theorem nums2 (n d a l s m : Nat) (hd : d < 16) (ha : a < 4294967296) (hl : l < 256) (hs : s < 65536) (hm : m < 65536) (w : World) : Calls Try.prog 35 #[.agg #[.int .u8 2, .int .u64 (n : Int), .int .i64 (d : Int), .int .u32 (a : Int), .int .u8 (l : Int), .int .u16 (s : Int), .int .u16 (m : Int)]] w (NumSaid w [d, m]) := by
  have B0 := Lib.hid ((Below.refl w.heap.size w).alloc (Nat.le_refl _) (.cells #[.int .u8 2, .int .u64 (n : Int), .int .i64 (d : Int), .int .u32 (a : Int), .int .u8 (l : Int), .int .u16 (s : Int), .int .u16 (m : Int)] 28))
  have B1 := Lib.hid (B0.out.alloc (by simp) (.cells #[.int .u64 (d : Int), .int .u64 (m : Int)] 22))
  have R1' := heap_alloc_new (w.alloc (.cells #[.int .u8 2, .int .u64 (n : Int), .int .i64 (d : Int), .int .u32 (a : Int), .int .u8 (l : Int), .int .u16 (s : Int), .int .u16 (m : Int)] 28)) (.cells #[.int .u64 (d : Int), .int .u64 (m : Int)] 22)
  rw [show (w.alloc (.cells #[.int .u8 2, .int .u64 (n : Int), .int .i64 (d : Int), .int .u32 (a : Int), .int .u8 (l : Int), .int .u16 (s : Int), .int .u16 (m : Int)] 28)).heap.size = w.heap.size + 1 by simp] at R1'
  have R1 := Lib.hid R1'
  clear R1'
  have hw1 : IntKind.u64.wrap (d : Int) = d := by rw [wrap_u64]; omega
  have hw2 : IntKind.u64.wrap (m : Int) = m := by rw [wrap_u64]; omega
  have hw3 : IntKind.u64.wrap (a : Int) = a := by rw [wrap_u64]; omega
  have hw4 : IntKind.u64.wrap (l : Int) = l := by rw [wrap_u64]; omega
  have hw5 : IntKind.u64.wrap (s : Int) = s := by rw [wrap_u64]; omega
  go_enter Try.func35, Try.ntmps35
  go_wp2
  go_ret
  exact ⟨_, rfl, R1.out, B1.out⟩
theorem nums3 (n d a l s m : Nat) (hd : d < 16) (ha : a < 4294967296) (hl : l < 256) (hs : s < 65536) (hm : m < 65536) (w : World) : Calls Try.prog 35 #[.agg #[.int .u8 3, .int .u64 (n : Int), .int .i64 (d : Int), .int .u32 (a : Int), .int .u8 (l : Int), .int .u16 (s : Int), .int .u16 (m : Int)]] w (NumSaid w [d, a, l, s, m]) := by
  have B0 := Lib.hid ((Below.refl w.heap.size w).alloc (Nat.le_refl _) (.cells #[.int .u8 3, .int .u64 (n : Int), .int .i64 (d : Int), .int .u32 (a : Int), .int .u8 (l : Int), .int .u16 (s : Int), .int .u16 (m : Int)] 28))
  have B1 := Lib.hid (B0.out.alloc (by simp) (.cells #[.int .u64 (d : Int), .int .u64 (a : Int), .int .u64 (l : Int), .int .u64 (s : Int), .int .u64 (m : Int)] 22))
  have R1' := heap_alloc_new (w.alloc (.cells #[.int .u8 3, .int .u64 (n : Int), .int .i64 (d : Int), .int .u32 (a : Int), .int .u8 (l : Int), .int .u16 (s : Int), .int .u16 (m : Int)] 28)) (.cells #[.int .u64 (d : Int), .int .u64 (a : Int), .int .u64 (l : Int), .int .u64 (s : Int), .int .u64 (m : Int)] 22)
  rw [show (w.alloc (.cells #[.int .u8 3, .int .u64 (n : Int), .int .i64 (d : Int), .int .u32 (a : Int), .int .u8 (l : Int), .int .u16 (s : Int), .int .u16 (m : Int)] 28)).heap.size = w.heap.size + 1 by simp] at R1'
  have R1 := Lib.hid R1'
  clear R1'
  have hw1 : IntKind.u64.wrap (d : Int) = d := by rw [wrap_u64]; omega
  have hw2 : IntKind.u64.wrap (m : Int) = m := by rw [wrap_u64]; omega
  have hw3 : IntKind.u64.wrap (a : Int) = a := by rw [wrap_u64]; omega
  have hw4 : IntKind.u64.wrap (l : Int) = l := by rw [wrap_u64]; omega
  have hw5 : IntKind.u64.wrap (s : Int) = s := by rw [wrap_u64]; omega
  go_enter Try.func35, Try.ntmps35
  go_wp2
  go_ret
  exact ⟨_, rfl, R1.out, B1.out⟩
theorem nums4 (n d a l s m : Nat) (hd : d < 16) (ha : a < 4294967296) (hl : l < 256) (hs : s < 65536) (hm : m < 65536) (w : World) : Calls Try.prog 35 #[.agg #[.int .u8 4, .int .u64 (n : Int), .int .i64 (d : Int), .int .u32 (a : Int), .int .u8 (l : Int), .int .u16 (s : Int), .int .u16 (m : Int)]] w (NumSaid w [a, l, s, n]) := by
  have B0 := Lib.hid ((Below.refl w.heap.size w).alloc (Nat.le_refl _) (.cells #[.int .u8 4, .int .u64 (n : Int), .int .i64 (d : Int), .int .u32 (a : Int), .int .u8 (l : Int), .int .u16 (s : Int), .int .u16 (m : Int)] 28))
  have B1 := Lib.hid (B0.out.alloc (by simp) (.cells #[.int .u64 (a : Int), .int .u64 (l : Int), .int .u64 (s : Int), .int .u64 (n : Int)] 22))
  have R1' := heap_alloc_new (w.alloc (.cells #[.int .u8 4, .int .u64 (n : Int), .int .i64 (d : Int), .int .u32 (a : Int), .int .u8 (l : Int), .int .u16 (s : Int), .int .u16 (m : Int)] 28)) (.cells #[.int .u64 (a : Int), .int .u64 (l : Int), .int .u64 (s : Int), .int .u64 (n : Int)] 22)
  rw [show (w.alloc (.cells #[.int .u8 4, .int .u64 (n : Int), .int .i64 (d : Int), .int .u32 (a : Int), .int .u8 (l : Int), .int .u16 (s : Int), .int .u16 (m : Int)] 28)).heap.size = w.heap.size + 1 by simp] at R1'
  have R1 := Lib.hid R1'
  clear R1'
  have hw1 : IntKind.u64.wrap (d : Int) = d := by rw [wrap_u64]; omega
  have hw2 : IntKind.u64.wrap (m : Int) = m := by rw [wrap_u64]; omega
  have hw3 : IntKind.u64.wrap (a : Int) = a := by rw [wrap_u64]; omega
  have hw4 : IntKind.u64.wrap (l : Int) = l := by rw [wrap_u64]; omega
  have hw5 : IntKind.u64.wrap (s : Int) = s := by rw [wrap_u64]; omega
  go_enter Try.func35, Try.ntmps35
  go_wp2
  go_ret
  exact ⟨_, rfl, R1.out, B1.out⟩
theorem rt_nd {x : Pt} (h : x.rt = true) : ∃ d : Nat, x.Nd = d ∧ d < 16 := by
  have h' := h
  unfold Pt.rt isNd at h'
  repeat' split at h'
  all_goals simp at h'
  · exact ⟨0, by omega, by decide⟩
  · exact ⟨x.Nd.toNat, by omega, by omega⟩
  · exact ⟨x.Nd.toNat, by omega, by omega⟩
  · exact ⟨0, by omega, by decide⟩
theorem rt_k {x : Pt} (h : x.rt = true) : x.K = 1 ∨ x.K = 2 ∨ x.K = 3 ∨ x.K = 4 := by
  unfold Pt.rt at h
  repeat' split at h
  · exact .inl (by assumption)
  · exact .inr (.inl (by assumption))
  · exact .inr (.inr (.inl (by assumption)))
  · exact .inr (.inr (.inr (by assumption)))
  · cases h
theorem nums_any (x : Pt) (hx : x.Fits) (hr : x.rt = true) (w : World) : Calls Try.prog 35 #[.agg x.cl.toArray] w (NumSaid w x.nums) := by
  obtain ⟨d, hd, hd2⟩ := rt_nd hr
  have hk := rt_k hr
  obtain ⟨k, n, nd, a, l, s, m⟩ := x
  have h2 := hx.a
  have h3 := hx.l
  have h4 := hx.s
  have h5 := hx.m
  simp only at h2 h3 h4 h5 hd hk
  subst hd
  show Calls Try.prog 35 #[.agg #[.int .u8 (k : Int), .int .u64 (n : Int), .int .i64 (d : Int), .int .u32 (a : Int), .int .u8 (l : Int), .int .u16 (s : Int), .int .u16 (m : Int)]] w _
  rcases hk with rfl | rfl | rfl | rfl
  · exact nums1 n d a l s m hd2 h2 h3 h4 h5 w
  · exact nums2 n d a l s m hd2 h2 h3 h4 h5 w
  · exact nums3 n d a l s m hd2 h2 h3 h4 h5 w
  · exact nums4 n d a l s m hd2 h2 h3 h4 h5 w
theorem nums_lt (x : Pt) (hx : x.Fits) : ∀ n ∈ x.nums, n < 18446744073709551616 := by
  have := hx.n
  have := hx.d'
  have := hx.a
  have := hx.l
  have := hx.s
  have := hx.m
  intro n hn
  unfold Pt.nums at hn
  repeat' split at hn
  all_goals simp at hn
  all_goals omega
end Go.Proofs.Ytecfblkagbdjlaa.Msg
