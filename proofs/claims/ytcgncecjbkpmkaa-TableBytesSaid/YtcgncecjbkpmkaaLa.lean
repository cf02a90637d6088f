/- A table as bytes. -/
import Derived.Test.YtcgncecjbkpmkaaKw
import Derived.Test.YtcgncecjbkpmkaaKx
import Derived.Test.YtcgncecjbkpmkaaCd
namespace Go.Proofs.Ytcgncecjbkpmkaa.Tab
open Pre Ser Chg Coin
open Go.ChangeShapes Go.WideShapes Go.ChangeAt Go.RowKit
set_option maxRecDepth 8000

def coins (ns : List Nat) : List UInt8 := ns.flatMap coin
theorem coins_len (ns : List Nat) : (coins ns).length ≤ 9 * ns.length := by
  induction ns with
  | nil => exact Nat.le_refl _
  | cons n ns ih =>
    have := sz_le n
    have e : (coins (n :: ns)).length = (coin n).length + (coins ns).length := by unfold coins; rw [List.flatMap_cons, List.length_append]
    rw [e, length_coin, List.length_cons]; omega
theorem put_all (w : World) (b k : Nat) (ns : List Nat) (hb : w.heap[b]? = some (.cells (ns.map fun n : Nat => Value.int .u64 (n : Int)).toArray 28 (0, 0))) (hns : ∀ n ∈ ns, n < 18446744073709551616) (hk : k = ns.length) (hlen : k ≤ 100) :
    Calls Try.prog 29 #[.slice (some ⟨b, 0, none⟩) k k] w (CoinOwn w (coins ns)) := by
  have HK := Lib.hid (And.intro hk (And.intro hb hns))
  have hbl : b < w.heap.size := (Array.getElem?_eq_some_iff.1 hb).1
  clear hk hb hns
  go_enter Try.func29, Try.ntmps29
  go_wp2
  go_loopw [3, 8] (fun p i wr => ∃ j : Nat, j ≤ k ∧ i = .int .i64 j ∧ Hid (Own wr w.heap.size p (coins (ns.take j)) ∧ Below w.heap.size w wr)) (fun _ i _ => k - (intOf i).toNat)
  case atStart => exact ⟨0, by omega, rfl, ⟨Own.nil _ _, Below.refl _ _⟩⟩
  case round =>
    obtain ⟨j, hj, rfl, HR⟩ := hrel
    by_cases hlt : j < k
    · have hjl : j < ns.length := by rw [← HK.out.1]; exact hlt
      have hnj := HK.out.2.2 _ (List.getElem_mem hjl)
      have c0 : wr.cell? ⟨b, j, none⟩ = some (.int .u64 (ns[j] : Int)) := by
        rw [World.cell?_of_block (HR.out.2.block b hbl), cell_of_row w b j _ 28 (0, 0) HK.out.2.1]
        simp [hjl]
      have hnx : coins (ns.take (j + 1)) = coins (ns.take j) ++ coin ns[j] := by
        unfold coins
        rw [List.take_succ_eq_append_getElem hjl, List.flatMap_append]
        simp
      have hcl := coins_len (ns.take j)
      have htl : (ns.take j).length = j := by rw [List.length_take]; omega
      rw [htl] at hcl
      obtain ⟨A, c, hv, hrd, -, -⟩ := HR.out.1.form
      have hput := put_any A c (coins (ns.take j)) ns[j] wr hnj (by omega) hrd
      obtain ⟨m, hm⟩ : ∃ m, m = (coins (ns.take j)).length := ⟨_, rfl⟩
      rw [← hm] at hv hput hcl
      generalize ns[j] = n at *
      have hsz := sz_le n
      have HP := Lib.hid hput
      have HX := Lib.hid (And.intro hnx hm)
      clear hnx hput hrd hnj htl hm
      subst hv
      obtain ⟨sn, hsn⟩ : ∃ sn, sn = sz n := ⟨_, rfl⟩
      rw [← hsn] at HP hsz
      have HS := Lib.hid hsn
      clear hsn
      go_wp2_with (go_at_call 49; (with_reducible refine HP.out.mono ?_); rintro e w2 ⟨rfl, R2, B2⟩; have HZ := Lib.hid (And.intro R2 B2); clear R2 B2)
      go_roundw
      case rel =>
        refine ⟨j + 1, by omega, by go_num, ⟨?_, HR.out.2.trans (HZ.out.2.mono HR.out.2.size)⟩⟩
        have hl : (coins (ns.take j) ++ coin n).length = m + sn := by rw [List.length_append, length_coin, ← HX.out.2, ← HS.out]
        have := Row.own HZ.out.1 HR.out.2.size (by rw [hl]; omega)
        rw [hl] at this
        rw [HX.out.1]
        exact this
      case measure => simp [intOf]; omega
    · obtain rfl : j = k := by omega
      go_wp2
      go_ret
      have := HR.out.1
      rw [List.take_of_length_le (by have := HK.out.1; omega)] at this
      exact ⟨_, rfl, this, HR.out.2⟩
/-- A row as bytes. -/
def rowB (r : R) : List UInt8 := coins [r.addr, r.len, r.ms, r.mm] ++ (if r.has then coins [r.via + 1, r.metric, r.seq] else coins [0])
theorem rowB_len (r : R) : (rowB r).length ≤ 63 := by
  unfold rowB
  rw [List.length_append]
  have h1 := coins_len [r.addr, r.len, r.ms, r.mm]
  have h2 := coins_len [r.via + 1, r.metric, r.seq]
  have h3 := coins_len [0]
  simp only [List.length_cons, List.length_nil] at h1 h2 h3
  split <;> omega
/-- What fits. -/
def R.Fits (r : R) : Prop := r.addr < 4294967296 ∧ r.len < 256 ∧ r.via < 9223372036854775808 ∧ r.metric < 65535 ∧ r.seq < 65536 ∧ r.ms < 65536 ∧ r.mm < 65535
theorem R.Ok.fits {r : R} (h : r.Ok) : r.Fits := ⟨h.1, by have := h.2.1; omega, by have := h.2.2.1; omega, h.2.2.2.1, h.2.2.2.2.1, h.2.2.2.2.2.1, h.2.2.2.2.2.2.1⟩
theorem own_mono {w : World} {B B' : Nat} {v : Value} {l : List UInt8} (h : Own w B v l) (hb : B' ≤ B) : Own w B' v l :=
  ⟨h.1, by
    rcases h.2 with h1 | ⟨g, cap, cur, hv, hB, h2⟩
    · exact .inl h1
    · exact .inr ⟨g, cap, cur, hv, Nat.le_trans hb hB, h2⟩⟩
theorem put_row (w : World) (r : R) (hr : r.Fits) :
    Calls Try.prog 30 #[.agg #[.int .u32 (r.addr : Int), .int .u8 (r.len : Int), .bool r.has, .int .u32 (r.addr : Int), .int .u8 (r.len : Int), .int .i64 (r.via : Int), .int .u16 (r.metric : Int), .int .u16 (r.seq : Int), .int .u16 (r.ms : Int), .int .u16 (r.mm : Int)]] w (CoinOwn w (rowB r)) := by
  obtain ⟨h1, h2, h3, h4, h5, h6, h7⟩ := hr
  have hlr := rowB_len r
  obtain ⟨x, hx⟩ : ∃ x, x = rowB r := ⟨_, rfl⟩
  have hx2 := hx
  unfold rowB at hx2
  rw [← hx] at hlr ⊢
  clear hx
  have HX := Lib.hid hx2
  clear hx2
  obtain ⟨a, n, has, v, m, s, ms, mm⟩ := r
  simp only at h1 h2 h3 h4 h5 h6 h7
  obtain ⟨v1, hv0⟩ : ∃ v1, v1 = v + 1 := ⟨_, rfl⟩
  have hv1 : IntKind.u64.wrap ((v : Int) + 1) = (v1 : Int) := by rw [wrap_u64]; omega
  have hv2 : (v : Int) + 1 = (v1 : Int) := by omega
  have hv3 : v1 < 18446744073709551616 := by omega
  simp only [← hv0] at HX
  clear hv0
  have cp1 : ∀ W b, W.heap[b]? = some (.cells #[.int .u64 (a : Int), .int .u64 (n : Int), .int .u64 (ms : Int), .int .u64 (mm : Int)] 28 (0, 0)) → Calls Try.prog 29 #[.slice (some ⟨b, 0, none⟩) 4 4] W (CoinOwn W (coins [a, n, ms, mm])) := fun W b hb => put_all W b 4 [a, n, ms, mm] hb (by intro k hk; simp at hk; omega) rfl (by decide)
  have HC1 := Lib.hid cp1
  have HC2 : Hid (∀ W b, W.heap[b]? = some (.cells #[.int .u64 0] 28 (0, 0)) → Calls Try.prog 29 #[.slice (some ⟨b, 0, none⟩) 1 1] W (CoinOwn W (coins [0]))) := fun W b hb => put_all W b 1 [0] hb (by intro k hk; simp at hk; omega) rfl (by decide)
  have HC3 : Hid (∀ W b, W.heap[b]? = some (.cells #[.int .u64 (v1 : Int), .int .u64 (m : Int), .int .u64 (s : Int)] 28 (0, 0)) → Calls Try.prog 29 #[.slice (some ⟨b, 0, none⟩) 3 3] W (CoinOwn W (coins [v1, m, s]))) := fun W b hb => put_all W b 3 [v1, m, s] hb (by intro k hk; simp at hk; omega) rfl (by decide)
  have R0 := heap_alloc_new w (.cells #[.int .u32 (a : Int), .int .u8 (n : Int), .bool has, .int .u32 (a : Int), .int .u8 (n : Int), .int .i64 (v : Int), .int .u16 (m : Int), .int .u16 (s : Int), .int .u16 (ms : Int), .int .u16 (mm : Int)] 43)
  have B0 : Below w.heap.size w (w.alloc (.cells #[.int .u32 (a : Int), .int .u8 (n : Int), .bool has, .int .u32 (a : Int), .int .u8 (n : Int), .int .i64 (v : Int), .int .u16 (m : Int), .int .u16 (s : Int), .int .u16 (ms : Int), .int .u16 (mm : Int)] 43)) := (Below.refl _ _).alloc (Nat.le_refl _) _
  clear cp1
  go_enter Try.func30, Try.ntmps30
  go_upto_region 1 with (fail)
  generalize w.alloc _ = w1 at *
  obtain ⟨⟨k0, k1, k2, k3, k4, k5, k6, k7, k8, k9⟩, kf⟩ := Tab.row10 R0
  have HZ := Lib.hid (And.intro R0 B0)
  have e0 : w.heap.size < w1.heap.size := (Array.getElem?_eq_some_iff.1 R0).1
  clear R0 B0
  go_upto_region 2 with (go_at_call 29; (with_reducible refine (HC1.out _ w1.heap.size (heap_alloc_new _ _)).mono ?_); rintro e w2 ⟨v2, rfl, O2, B2⟩; have R2 := (B2.block w.heap.size (by simp; omega)).trans ((heap_alloc_old _ _ e0).trans HZ.out.1); obtain ⟨⟨l0, l1, l2, l3, l4, l5, l6, l7, l8, l9⟩, lf⟩ := Tab.row10 R2; have HZ2 := Lib.hid (And.intro R2 (And.intro O2 (And.intro B2 ((HZ.out.2.alloc HZ.out.2.size _).trans (B2.mono (by have := HZ.out.2.size; simp; omega)))))); clear R2 O2 B2 k0 k1 k2 k3 k4 k5 k6 k7 k8 k9 kf)
  cases has
  · go_wp2_with (first
      | (go_at_call 29; (with_reducible refine (HC2.out _ w2.heap.size (heap_alloc_new _ _)).mono ?_); (rintro e w4 ⟨v4, rfl, O4, B4⟩; obtain ⟨A4, c4, hv4, hrd4, -, hn4⟩ := O4.form; obtain ⟨m4, hm4⟩ : ∃ m4, m4 = (coins [0]).length := ⟨_, rfl⟩; rw [← hm4] at hv4; subst hv4; have HZ4 := Lib.hid (And.intro (And.intro hrd4 (And.intro hm4 hn4)) (And.intro (own_mono (B' := w.heap.size) ((HZ2.out.2.1.kept ((Below.refl _ _).alloc (Nat.le_refl _) _)).kept B4) (by have := HZ.out.2.size; simp; omega)) ((HZ2.out.2.2.2.alloc HZ2.out.2.2.2.size _).trans (B4.mono (by have := HZ2.out.2.2.2.size; simp; omega))))); clear O4 B4 hrd4 hm4 hn4))
      | (at_builtin; refine app_any rfl (.tmp 25) (.tmp 27) rfl w.heap.size v2 (coins [a, n, ms, mm]) (coins [0]) A4 m4 c4 w4.heap.size rfl rfl HZ4.out.2.1 HZ4.out.1.1 HZ4.out.1.2.1 HZ4.out.1.2.2 (by have := coins_len [a, n, ms, mm]; have := coins_len [v1, m, s]; have := coins_len [0]; simp only [List.length_cons, List.length_nil] at *; omega) HZ4.out.2.2.size w.heap.size w HZ4.out.2.2 (Nat.le_refl _) ?_; intro v5 w5 O5 B5 _; have HZ5 := Lib.hid (And.intro O5 B5); clear O5 B5))
    go_ret
    exact ⟨v5, rfl, by rw [HX.out]; simpa using HZ5.out.1, HZ5.out.2⟩
  · go_wp2_with (first
      | (go_at_call 29; (with_reducible refine (HC3.out _ w2.heap.size (heap_alloc_new _ _)).mono ?_); rintro e w4 ⟨v4, rfl, O4, B4⟩; obtain ⟨A4, c4, hv4, hrd4, -, hn4⟩ := O4.form; obtain ⟨m4, hm4⟩ : ∃ m4, m4 = (coins [v1, m, s]).length := ⟨_, rfl⟩; rw [← hm4] at hv4; subst hv4; have HZ4 := Lib.hid (And.intro (And.intro hrd4 (And.intro hm4 hn4)) (And.intro (own_mono (B' := w.heap.size) ((HZ2.out.2.1.kept ((Below.refl _ _).alloc (Nat.le_refl _) _)).kept B4) (by have := HZ.out.2.size; simp; omega)) ((HZ2.out.2.2.2.alloc HZ2.out.2.2.2.size _).trans (B4.mono (by have := HZ2.out.2.2.2.size; simp; omega))))); clear O4 B4 hrd4 hm4 hn4)
      | (at_builtin; refine app_any rfl (.tmp 29) (.tmp 44) rfl w.heap.size v2 (coins [a, n, ms, mm]) (coins [v1, m, s]) A4 m4 c4 w4.heap.size rfl rfl HZ4.out.2.1 HZ4.out.1.1 HZ4.out.1.2.1 HZ4.out.1.2.2 (by have := coins_len [a, n, ms, mm]; have := coins_len [v1, m, s]; have := coins_len [0]; simp only [List.length_cons, List.length_nil] at *; omega) HZ4.out.2.2.size w.heap.size w HZ4.out.2.2 (Nat.le_refl _) ?_; intro v5 w5 O5 B5 _; have HZ5 := Lib.hid (And.intro O5 B5); clear O5 B5))
    go_ret
    exact ⟨v5, rfl, by rw [HX.out]; simpa using HZ5.out.1, HZ5.out.2⟩
end Go.Proofs.Ytcgncecjbkpmkaa.Tab
