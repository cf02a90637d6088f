/- The document's Coins; Decode of any bytes. -/
import Derived.Test.YtcgncecjbkpmkaaLh
namespace Go.Proofs.Ytcgncecjbkpmkaa.Tab
open Pre Ser Chg Coin
open Go.ChangeShapes Go.WideShapes Go.ChangeAt Go.RowKit
set_option maxRecDepth 8000

theorem rows_more (rs : List R) : rs.length ≤ (rs.flatMap rowB).length := by
  induction rs with
  | nil => exact Nat.le_refl _
  | cons r rs ih =>
    have h1 : 1 ≤ (rowB r).length := by
      unfold rowB
      rw [coins_cons, List.length_append, List.length_append, length_coin]
      have := sz_le r.addr
      omega
    simp only [List.flatMap_cons, List.length_append, List.length_cons]; omega
/-- A table of just these bytes, or none. -/
def DecB (w : World) (l : List UInt8) (e : Ending) (w' : World) : Prop :=
  Below w.heap.size w w' ∧ ((∃ er : Nat, er ≠ 0 ∧ e = .returned (.tuple #[.pointer none, .int .i64 (er : Int)])) ∨
    ∃ t q v, e = .returned (.tuple #[.pointer (some ⟨q, 0, none⟩), .int .i64 0]) ∧ TabAt w' w.heap.size q t v ∧ t.enc = l ∧ (∀ r ∈ t.rows, r.Fits) ∧ t.no < 18446744073709551616 ∧ t.time < 18446744073709551616 ∧ t.rows.length ≤ l.length)
theorem decode_bytes (A : Option Addr) (m cap : Nat) (l : List UInt8) (w : World) (hm : m = l.length) (hl : l.length ≤ 100000) (hr : Rd w w.heap.size A l) :
    Calls Try.prog 21 #[.slice A m cap] w (DecB w l) := by
  subst hm
  refine (decode_any A cap l w hl hr).mono ?_
  rintro e w' ⟨s, h1, h2, h3, h4, -⟩
  refine ⟨h3, ?_⟩
  rcases h4 with ⟨er, h5, h6⟩ | ⟨h5, q, v, h6, h7⟩
  · exact Or.inl ⟨er, h5, h6⟩
  · obtain ⟨g1, g2, g3, g4⟩ := dec_sound l s h1 h2 h5
    refine Or.inr ⟨_, q, v, h6, h7, g1, g2, g3, g4, ?_⟩
    have := rows_more s.rs
    have e : l.length = (T.enc ⟨s.rs, (st0 l).1, (st0 l).2.1⟩).length := by rw [g1]
    have e2 : (s.rs.flatMap rowB).length ≤ (T.enc ⟨s.rs, (st0 l).1, (st0 l).2.1⟩).length := by
      unfold T.enc
      rw [List.length_append]
      exact Nat.le_add_left _ _
    show s.rs.length ≤ l.length
    omega
theorem rcoins_any (w : World) (b k : Nat) (ns : List Nat) (hb : w.heap[b]? = some (.cells (ns.map fun n : Nat => Value.int .u64 (n : Int)).toArray 28 (0, 0))) (hns : ∀ n ∈ ns, n < 18446744073709551616) (hk : k = ns.length) (hlen : k ≤ 100) :
    Calls Try.prog 20 #[.slice (some ⟨b, 0, none⟩) k k] w (CoinOwn w (coins ns)) := by
  have HK := Lib.hid (And.intro hk (And.intro hb hns))
  have hbl : b < w.heap.size := (Array.getElem?_eq_some_iff.1 hb).1
  clear hk hb hns
  go_enter Try.func20, Try.ntmps20
  go_wp2
  go_loopw [3, 4] (fun p i wr => ∃ j : Nat, j ≤ k ∧ i = .int .i64 j ∧ Hid (Own wr w.heap.size p (coins (ns.take j)) ∧ Below w.heap.size w wr)) (fun _ i _ => k - (intOf i).toNat)
  case atStart => exact ⟨0, by omega, rfl, ⟨Own.nil _ _, Below.refl _ _⟩⟩
  case round =>
    obtain ⟨j, hj, rfl, HR⟩ := hrel
    by_cases hlt : j < k
    · have hjl : j < ns.length := by rw [← HK.out.1]; exact hlt
      have hnj := HK.out.2.2 _ (List.getElem_mem hjl)
      have c0 : wr.cell? ⟨b, j, none⟩ = some (.int .u64 (ns[j] : Int)) := by
        rw [World.cell?_of_block (HR.out.2.block b hbl), cell_of_row w b j _ 28 (0, 0) HK.out.2.1]
        simp [hjl]
      have hnx : coins (ns.take (j + 1)) = coins (ns.take j) ++ coin ns[j] := by
        unfold coins
        rw [List.take_succ_eq_append_getElem hjl, List.flatMap_append]
        simp
      have hcl := coins_len (ns.take j)
      have htl : (ns.take j).length = j := by rw [List.length_take]; omega
      rw [htl] at hcl
      obtain ⟨A, c, hv, -, -, -⟩ := HR.out.1.form
      have hput := rcoin_own ns[j] hnj wr
      obtain ⟨m, hm⟩ : ∃ m, m = (coins (ns.take j)).length := ⟨_, rfl⟩
      rw [← hm] at hv hcl
      generalize ns[j] = n at *
      have hsz := sz_le n
      have HP := Lib.hid hput
      have HX := Lib.hid (And.intro hnx hm)
      clear hnx hput hnj htl hm
      subst hv
      go_wp2_with (first
        | (go_at_call 31; (with_reducible refine HP.out.mono ?_); rintro e w4 ⟨v4, rfl, O4, B4⟩; obtain ⟨A4, c4, hv4, hrd4, -, hn4⟩ := O4.form; obtain ⟨m4, hm4⟩ : ∃ m4, m4 = (coin n).length := ⟨_, rfl⟩; rw [← hm4] at hv4; subst hv4; have HZ4 := Lib.hid (And.intro (And.intro hrd4 (And.intro hm4 hn4)) (And.intro (HR.out.1.kept B4) (HR.out.2.trans (B4.mono HR.out.2.size)))); clear O4 B4 hrd4 hm4 hn4)
        | (at_builtin; refine app_any rfl (.tmp 11) (.tmp 16) rfl w.heap.size _ (coins (ns.take j)) (coin n) A4 m4 c4 w4.heap.size rfl rfl HZ4.out.2.1 HZ4.out.1.1 HZ4.out.1.2.1 HZ4.out.1.2.2 (by have := HX.out.2; rw [length_coin]; omega) HZ4.out.2.2.size w.heap.size w HZ4.out.2.2 (Nat.le_refl _) ?_; intro v5 w5 O5 B5 _; have HZ5 := Lib.hid (And.intro O5 B5); clear O5 B5))
      go_roundw
      case rel => exact ⟨j + 1, by omega, by go_num, ⟨by rw [HX.out.1]; exact HZ5.out.1, HZ5.out.2⟩⟩
      case measure => simp [intOf]; omega
    · obtain rfl : j = k := by omega
      go_wp2
      go_ret
      have := HR.out.1
      rw [List.take_of_length_le (by have := HK.out.1; omega)] at this
      exact ⟨_, rfl, this, HR.out.2⟩
end Go.Proofs.Ytcgncecjbkpmkaa.Tab
