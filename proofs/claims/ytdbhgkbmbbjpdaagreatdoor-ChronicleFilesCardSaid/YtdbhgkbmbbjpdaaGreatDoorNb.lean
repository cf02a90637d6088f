/- Numbers in frames: packNumbers, packHead, packTitle. -/
import Derived.Test.YtdbhgkbmbbjpdaaGreatDoorNa
import Derived.Test.YtdbhgkbmbbjpdaaGreatDoorFSc
namespace Go.Proofs.YtdbhgkbmbbjpdaaGreatDoor.Chr
open Go.ChangeShapes Go.WideShapes Go.ChangeAt Go.RowKit
open Shf (S str)
open Coin (Rd Row Own sz coin got Pur takeV endV CoinSaid CoinOwn)
open Frm (pack)
set_option maxRecDepth 8000
def coins (ns : List Nat) : S := ns.flatMap coin
theorem coins_len (ns : List Nat) : (coins ns).length ≤ 9 * ns.length := by
  induction ns with
  | nil => exact Nat.le_refl _
  | cons n ns ih =>
    have e : coins (n :: ns) = coin n ++ coins ns := rfl
    rw [e, List.length_append, Coin.length_coin, List.length_cons]
    have := (Coin.sz_le n).2
    omega
theorem coins_take (ns : List Nat) (j : Nat) (hj : j < ns.length) : coins (ns.take (j + 1)) = coins (ns.take j) ++ coin ns[j] := by
  unfold coins
  rw [List.take_succ_eq_append_getElem hj, List.flatMap_append]
  simp
theorem own_le {w : World} {B B' : Nat} {v : Value} {l : S} (h : Own w B v l) (hB : B' ≤ B) : Own w B' v l := by
  obtain ⟨h0, h | ⟨g, cap, cur, e, hb, r⟩⟩ := h
  · exact ⟨h0, .inl h⟩
  · exact ⟨h0, .inr ⟨g, cap, cur, e, Nat.le_trans hB hb, r⟩⟩
theorem packN_own (w : World) (b k : Nat) (q : Int) (kd : UInt8) (hq : q = (kd.toNat : Int)) (ns : List Nat) (hb : w.heap[b]? = some (.cells (ns.map fun n : Nat => Value.int .u64 (n : Int)).toArray 42 (0, 0))) (hns : ∀ n ∈ ns, n < 18446744073709551616) (hk : k = ns.length) (hk9 : k ≤ 9) :
    Calls Tryz.prog 68 #[.int .u8 q, .slice (some ⟨b, 0, none⟩) k k] w (CoinOwn w (pack kd (coins ns))) := by
  have hbl : b < w.heap.size := (Array.getElem?_eq_some_iff.1 hb).1
  have hcl : ∀ j (hj : j < ns.length), w.cell? ⟨b, j, none⟩ = some (.int .u64 (ns[j] : Int)) := fun j hj => by
    rw [cell_of_row w b j _ 42 (0, 0) hb]
    simp [hj]
  have cp := fun W A (hr : Rd W W.heap.size A (coins ns)) hA => Frm.pack_own kd A (coins ns).length (coins ns) W (by have := coins_len ns; omega) hr hA
  rw [← hq] at cp
  clear hq
  have HK := Lib.hid hk
  have HN := Lib.hid hns
  have HC := Lib.hid hcl
  clear hk hns hcl hb
  go_enter Tryz.func68, Tryz.ntmps68
  go_wp2
  go_loopw [5, 10] (fun p i wr => ∃ j : Nat, j ≤ k ∧ i = .int .i64 j ∧ Hid (∃ A m, p = .slice A m m ∧ m = (coins (ns.take j)).length ∧ Rd wr wr.heap.size A (coins (ns.take j)) ∧ (A = none → m = 0) ∧ Below w.heap.size w wr)) (fun _ i _ => k - (intOf i).toNat)
  case atStart => exact ⟨0, Nat.zero_le _, rfl, ⟨none, 0, rfl, by simp [coins], by simpa [coins] using Rd.nil _ _ _, fun _ => rfl, Below.refl _ _⟩⟩
  case round =>
    obtain ⟨j, hj, rfl, HR0⟩ := hrel
    obtain ⟨A, m, rfl, hR⟩ := HR0.out
    have HR := Lib.hid hR
    clear hR HR0
    by_cases hlt : j < k
    · have hlt' : (j : Int) < k := by omega
      have hjl : j < ns.length := by rw [← HK.out]; exact hlt
      have hc := (HR.out.2.2.2.cell (p := ⟨b, j, none⟩) hbl).trans (HC.out j hjl)
      have hpl := coins_len (ns.take j)
      have c92 := Coin.put_any A m (coins (ns.take j)) ns[j] wr (HN.out _ (List.getElem_mem hjl)) (by have := coins_len (ns.take j); rw [List.length_take] at this; omega) HR.out.2.1
      rw [← coins_take ns j hjl, ← HR.out.1] at c92
      have hm2 : (coins (ns.take (j + 1))).length = m + sz ns[j] := by rw [coins_take ns j hjl, List.length_append, ← HR.out.1, Coin.length_coin]
      obtain ⟨m2, hm2'⟩ : ∃ m2, m2 = m + sz ns[j] := ⟨_, rfl⟩
      rw [← hm2'] at c92 hm2
      have HM2 := Lib.hid hm2
      clear hm2 hm2' hpl
      generalize ns[j] = n at *
      go_wp2_with (go_at_call 92; (with_reducible refine c92.mono ?_); rintro e w2 ⟨rfl, R2, B2⟩; have HR2 := Lib.hid (And.intro R2 (HR.out.2.2.2.trans (B2.mono HR.out.2.2.2.size))); clear c92 R2 B2)
      go_roundw
      case rel => exact ⟨j + 1, by omega, by go_num, ⟨_, m2, rfl, HM2.out.symm, HR2.out.1.rd, (fun h => by cases h), HR2.out.2⟩⟩
      case measure => simp [intOf]; omega
    · obtain rfl : j = k := by omega
      have e : ns.take j = ns := List.take_of_length_le (by rw [← HK.out]; exact Nat.le_refl _)
      have HR' := HR.out
      rw [e] at HR'
      have c62 := cp wr A HR'.2.1 (fun h => by rw [← HR'.1]; exact HR'.2.2.1 h)
      rw [← HR'.1] at c62
      have HB := Lib.hid HR'.2.2.2
      clear HR' HR e cp
      go_wp2_with (go_at_call 62; (with_reducible refine c62.mono ?_); rintro e w2 ⟨v2, rfl, R2, B2⟩; have HR2 := Lib.hid (And.intro (own_le R2 HB.out.size) (HB.out.trans (B2.mono HB.out.size))); clear c62 R2 B2)
      go_ret
      exact ⟨v2, rfl, HR2.out.1, HR2.out.2⟩
def headB (a b c : Nat) : S := pack 76 (coins [a, b, c])
def titleB (a b : Nat) : S := pack 84 (coins [a, b])
theorem head_own (w : World) (a b c : Nat) (ha : a < 18446744073709551616) (hb : b < 18446744073709551616) (hc : c < 18446744073709551616) :
    Calls Tryz.prog 38 #[.agg #[.int .u64 (a : Int), .int .u64 (b : Int), .int .u64 (c : Int)]] w (CoinOwn w (headB a b c)) := by
  have c68 := fun W g hW => packN_own W g 3 76 76 rfl [a, b, c] hW (by intro n hn; simp at hn; omega) rfl (by decide)
  go_enter Tryz.func38, Tryz.ntmps38
  go_upto_region 1 with (fail)
  have N1 := heap_alloc_new w (.cells #[.int .u64 (a : Int), .int .u64 (b : Int), .int .u64 (c : Int)] 45)
  have B1 : Below w.heap.size w (w.alloc (.cells #[.int .u64 (a : Int), .int .u64 (b : Int), .int .u64 (c : Int)] 45)) := (Below.refl _ _).alloc (Nat.le_refl _) _
  generalize w.alloc (.cells #[.int .u64 (a : Int), .int .u64 (b : Int), .int .u64 (c : Int)] 45) = w1 at *
  have y0 : w1.cell? ⟨w.heap.size, 0, none⟩ = some (.int .u64 (a : Int)) := cell_of_row w1 _ 0 _ 45 (0, 0) N1
  have y1 : w1.cell? ⟨w.heap.size, 1, none⟩ = some (.int .u64 (b : Int)) := cell_of_row w1 _ 1 _ 45 (0, 0) N1
  have y2 : w1.cell? ⟨w.heap.size, 2, none⟩ = some (.int .u64 (c : Int)) := cell_of_row w1 _ 2 _ 45 (0, 0) N1
  have c68' := c68 (w1.alloc (.cells #[.int .u64 (a : Int), .int .u64 (b : Int), .int .u64 (c : Int)] 42)) w1.heap.size (heap_alloc_new w1 _)
  have HB := Lib.hid (B1.alloc B1.size (.cells #[.int .u64 (a : Int), .int .u64 (b : Int), .int .u64 (c : Int)] 42))
  clear c68 N1 B1
  go_wp2_with (go_at_call 68; (with_reducible refine c68'.mono ?_); rintro e w2 ⟨v2, rfl, R2, B2⟩; have HR2 := Lib.hid (And.intro (own_le R2 HB.out.size) (HB.out.trans (B2.mono HB.out.size))); clear c68' R2 B2)
  go_ret
  exact ⟨v2, rfl, HR2.out.1, HR2.out.2⟩
theorem title_own (w : World) (a b : Nat) (A : Option Addr) (n c : Nat) (z : Int) (ha : a < 18446744073709551616) (hb : b < 18446744073709551616) :
    Calls Tryz.prog 104 #[.agg #[.int .u64 (a : Int), .int .u64 (b : Int), .slice A n c, .int .i64 z]] w (CoinOwn w (titleB a b)) := by
  have c68 := fun W g hW => packN_own W g 2 84 84 rfl [a, b] hW (by intro n hn; simp at hn; omega) rfl (by decide)
  go_enter Tryz.func104, Tryz.ntmps104
  go_upto_region 1 with (fail)
  have N1 := heap_alloc_new w (.cells #[.int .u64 (a : Int), .int .u64 (b : Int), .slice A n c, .int .i64 z] 60)
  have B1 : Below w.heap.size w (w.alloc (.cells #[.int .u64 (a : Int), .int .u64 (b : Int), .slice A n c, .int .i64 z] 60)) := (Below.refl _ _).alloc (Nat.le_refl _) _
  generalize w.alloc (.cells #[.int .u64 (a : Int), .int .u64 (b : Int), .slice A n c, .int .i64 z] 60) = w1 at *
  have y0 : w1.cell? ⟨w.heap.size, 0, none⟩ = some (.int .u64 (a : Int)) := cell_of_row w1 _ 0 _ 60 (0, 0) N1
  have y1 : w1.cell? ⟨w.heap.size, 1, none⟩ = some (.int .u64 (b : Int)) := cell_of_row w1 _ 1 _ 60 (0, 0) N1
  have c68' := c68 (w1.alloc (.cells #[.int .u64 (a : Int), .int .u64 (b : Int)] 42)) w1.heap.size (heap_alloc_new w1 _)
  have HB := Lib.hid (B1.alloc B1.size (.cells #[.int .u64 (a : Int), .int .u64 (b : Int)] 42))
  clear c68 N1 B1
  go_wp2_with (go_at_call 68; (with_reducible refine c68'.mono ?_); rintro e w2 ⟨v2, rfl, R2, B2⟩; have HR2 := Lib.hid (And.intro (own_le R2 HB.out.size) (HB.out.trans (B2.mono HB.out.size))); clear c68' R2 B2)
  go_ret
  exact ⟨v2, rfl, HR2.out.1, HR2.out.2⟩
end Go.Proofs.YtdbhgkbmbbjpdaaGreatDoor.Chr
