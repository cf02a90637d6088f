/- Contract: putPart. -/
import Derived.Test.YtecfblkagbdjlaaMc
namespace Go.Proofs.Ytecfblkagbdjlaa.Msg
open Go.ChangeShapes Go.WideShapes Go.ChangeAt Go.RowKit
open Coin (coin sz b8 Rd Row Own CoinOwn put_any sz_le length_coin)
set_option maxRecDepth 8000

theorem own_mono {w : World} {B B' : Nat} {v : Value} {l : List UInt8} (h : Own w B v l) (hb : B' ≤ B) : Own w B' v l :=
  ⟨h.1, by
    rcases h.2 with h1 | ⟨g, cap, cur, hv, hB, h2⟩
    · exact .inl h1
    · exact .inr ⟨g, cap, cur, hv, Nat.le_trans hb hB, h2⟩⟩
/-- Bytes behind those that were the call's own. -/
def Longer (w0 : World) (B0 B : Nat) (l : List UInt8) (e : Ending) (w' : World) : Prop := ∃ v, e = .returned v ∧ Own w' B v l ∧ Below B0 w0 w'
theorem _root_.Go.Proofs.Ytecfblkagbdjlaa.Coin.Own.keptG {w w' : World} {B : Nat} {v : Value} {l : List UInt8} {row : Option Nat} (h : Own w B v l) (g : w.grownBy w' row) (hne : v.ownBlock = none ∨ v.ownBlock ≠ row) : Own w' B v l := World.ownsRow.kept h g hne
theorem own_ne {w wr : World} {B B2 : Nat} {v v5 : Value} {l l5 : List UInt8} (h : Own w B v l) (h5 : Own wr B2 v5 l5) (hB : w.heap.size ≤ B2) : v5.ownBlock = none ∨ v5.ownBlock ≠ v.ownBlock := by
  cases e : v5.ownBlock with
  | none => exact .inl rfl
  | some k =>
    right
    intro e2
    have a := (h5.lt k e).1
    have b := (h.lt k e2.symm).2
    omega
theorem one_row (w : World) (k : UInt8) (q : Nat) (hq : q = k.toNat) : Row (w.alloc (.cells #[.int .u8 (q : Int)] 5)) w.heap.size [k] := by rw [hq]; exact heap_alloc_new w _
set_option maxHeartbeats 1000000 in
theorem put_part (w w0 : World) (B0 B : Nat) (v : Value) (l : List UInt8) (x : Pt) (hown : Own w B v l) (hx : x.Fits) (hr : x.rt = true) (hlen : l.length ≤ 100000) (hB : B ≤ w.heap.size) (hb : Below B0 w0 w) (hB0 : B0 ≤ B) :
    Calls Try.prog 21 #[v, .agg x.cl.toArray] w (Longer w0 B0 B (l ++ x.bytes)) := by
  have hnl := x.nums_len
  have hbl := x.body_len
  have hnu := nums_any x hx hr
  have hns := nums_lt x hx
  have hk : x.K < 256 := hx.k
  have hby : x.bytes = UInt8.ofNat x.K :: (coin x.body.length ++ x.body) := rfl
  have hbd : x.body = coins x.nums := rfl
  have hK : x.K = (UInt8.ofNat x.K).toNat := by simp; omega
  generalize UInt8.ofNat x.K = kb at *
  show Calls Try.prog 21 #[v, .agg #[.int .u8 (x.K : Int), .int .u64 (x.N : Int), .int .i64 x.Nd, .int .u32 (x.A : Int), .int .u8 (x.L : Int), .int .u16 (x.Sq : Int), .int .u16 (x.M : Int)]] w _
  change ∀ w : World, Calls Try.prog 35 #[.agg #[.int .u8 (x.K : Int), .int .u64 (x.N : Int), .int .i64 x.Nd, .int .u32 (x.A : Int), .int .u8 (x.L : Int), .int .u16 (x.Sq : Int), .int .u16 (x.M : Int)]] w _ at hnu
  obtain ⟨K, hKe⟩ : ∃ K, K = x.K := ⟨_, rfl⟩
  rw [← hKe] at hK hnu ⊢
  generalize x.nums = ns at *
  generalize x.body = bd at *
  generalize x.bytes = by' at *
  subst hbd hby
  obtain ⟨A0, c0, hv, hrd, hc0, hA0⟩ := hown.form
  obtain ⟨m0, hm0⟩ : ∃ m0, m0 = l.length := ⟨_, rfl⟩
  rw [← hm0] at hv hc0 hlen
  subst hv
  have B1 := (Below.refl w.heap.size w).alloc (Nat.le_refl _) (.cells #[.int .u8 (K : Int), .int .u64 (x.N : Int), .int .i64 x.Nd, .int .u32 (x.A : Int), .int .u8 (x.L : Int), .int .u16 (x.Sq : Int), .int .u16 (x.M : Int)] 28)
  have R1 := heap_alloc_new w (.cells #[.int .u8 (K : Int), .int .u64 (x.N : Int), .int .i64 x.Nd, .int .u32 (x.A : Int), .int .u8 (x.L : Int), .int .u16 (x.Sq : Int), .int .u16 (x.M : Int)] 28)
  have HX := Lib.hid (And.intro hnu (And.intro hns (And.intro hown (And.intro hm0 (And.intro hK (And.intro hb (And.intro B1 R1)))))))
  clear hnu hns hown hm0 hK hb B1 R1 hrd hx hr hk hKe
  obtain ⟨k, hke⟩ : ∃ k, k = ns.length := ⟨_, rfl⟩
  have HNL := Lib.hid (And.intro hke hnl)
  have hk5 : k ≤ 5 := by omega
  clear hke hnl
  go_enter Try.func21, Try.ntmps21
  go_wp2_with (go_at_call 35; (with_reducible refine (HX.out.1 _).mono ?_); rintro e w2 ⟨b, rfl, hrow, B2⟩; rw [← HNL.out.1]; have HW := Lib.hid (And.intro hrow (And.intro B2 (And.intro (HX.out.2.2.2.2.2.2.1.trans (B2.mono (by simp))) ((B2.block w.heap.size (by simp)).trans HX.out.2.2.2.2.2.2.2)))); clear hrow B2)
  have hbl2 : b < w2.heap.size := (Array.getElem?_eq_some_iff.1 HW.out.1).1
  go_loopw [5, 11] (fun p i wr => ∃ j : Nat, j ≤ k ∧ i = .int .i64 j ∧ Hid (Own wr w2.heap.size p (coins (ns.take j)) ∧ Below w2.heap.size w2 wr)) (fun _ i _ => k - (intOf i).toNat)
  case atStart => exact ⟨0, by omega, rfl, ⟨Own.nil _ _, Below.refl _ _⟩⟩
  case round =>
    obtain ⟨j, hj, rfl, HR⟩ := hrel
    by_cases hlt : j < k
    · have hjl : j < ns.length := by rw [← HNL.out.1]; exact hlt
      have hnj := HX.out.2.1 _ (List.getElem_mem hjl)
      have d0 : wr.cell? ⟨b, j, none⟩ = some (.int .u64 (ns[j] : Int)) := by
        rw [World.cell?_of_block (HR.out.2.block b hbl2), cell_of_row w2 b j _ 22 (0, 0) HW.out.1]
        simp [hjl]
      have hnx : coins (ns.take (j + 1)) = coins (ns.take j) ++ coin ns[j] := by
        unfold coins
        rw [List.take_succ_eq_append_getElem hjl, List.flatMap_append]
        simp
      have hcl := coins_len (ns.take j)
      have htl : (ns.take j).length = j := by rw [List.length_take]; omega
      rw [htl] at hcl
      obtain ⟨A, c, hv, hrd, -, -⟩ := HR.out.1.form
      have hput := put_any A c (coins (ns.take j)) ns[j] wr hnj (by omega) hrd
      obtain ⟨m, hm⟩ : ∃ m, m = (coins (ns.take j)).length := ⟨_, rfl⟩
      rw [← hm] at hv hput hcl
      generalize ns[j] = n at *
      have hsz := sz_le n
      have HP := Lib.hid hput
      have HQ := Lib.hid (And.intro hnx hm)
      clear hnx hput hrd hnj htl hm
      subst hv
      obtain ⟨sn, hsn⟩ : ∃ sn, sn = sz n := ⟨_, rfl⟩
      rw [← hsn] at HP hsz
      have HS := Lib.hid hsn
      clear hsn
      go_wp2_with (go_at_call 20; (with_reducible refine HP.out.mono ?_); rintro e w3 ⟨rfl, R3, B3⟩; have HZ := Lib.hid (And.intro R3 B3); clear R3 B3)
      go_roundw
      case rel =>
        refine ⟨j + 1, by omega, by go_num, ⟨?_, HR.out.2.trans (HZ.out.2.mono HR.out.2.size)⟩⟩
        have hl : (coins (ns.take j) ++ coin n).length = m + sn := by rw [List.length_append, length_coin, ← HQ.out.2, ← HS.out]
        have := Coin.Row.own HZ.out.1 HR.out.2.size (by rw [hl]; omega)
        rw [hl] at this
        rw [HQ.out.1]
        exact this
      case measure => simp [intOf]; omega
    · obtain rfl : j = k := by omega
      have hall : ns.take j = ns := List.take_of_length_le (by have := HNL.out.1; omega)
      have hO := HR.out.1
      have hBr := HR.out.2
      rw [hall] at hO
      have hlb := coins_len ns
      have hlb2 : (coins ns).length ≤ 45 := by have := HNL.out.1; omega
      clear hall hlb
      generalize coins ns = bs at *
      obtain ⟨A5, c5, hv5, -, -, hn5⟩ := hO.form
      obtain ⟨m5, hm5⟩ : ∃ m5, m5 = bs.length := ⟨_, rfl⟩
      rw [← hm5] at hv5 hlb2
      subst hv5
      have HBw : Below w.heap.size w wr := HW.out.2.2.1.trans (hBr.mono HW.out.2.2.1.size)
      have O4 : Own (wr.alloc (.cells #[.int .u8 (K : Int)] 5)) B (.slice A0 m0 c0) l := HX.out.2.2.1.kept (HBw.alloc HBw.size _)
      have R4 := (one_row wr kb K HX.out.2.2.2.2.1).rd
      have b4 : Below B0 w0 (wr.alloc (.cells #[.int .u8 (K : Int)] 5)) := (HX.out.2.2.2.2.2.1.trans (HBw.mono (by omega))).alloc (by have := HX.out.2.2.2.2.2.1.size; have := HBw.size; omega) _
      have h4 : B ≤ (wr.alloc (.cells #[.int .u8 (K : Int)] 5)).heap.size := by have := HBw.size; simp; omega
      have l4 : l.length + [kb].length ≤ 1000000 := by have := HX.out.2.2.2.1; simp; omega
      have hne := own_ne HX.out.2.2.1 hO HW.out.2.2.1.size
      have O5 : Own (wr.alloc (.cells #[.int .u8 (K : Int)] 5)) w2.heap.size (.slice A5 m5 c5) bs := hO.kept ((Below.refl _ _).alloc (Nat.le_refl _) _)
      have d1 : wr.cell? ⟨w.heap.size, 0, none⟩ = some (.int .u8 (K : Int)) := by
        rw [World.cell?_of_block (hBr.block w.heap.size (Array.getElem?_eq_some_iff.1 HW.out.2.2.2).1), cell_of_row w2 w.heap.size 0 _ 28 (0, 0) HW.out.2.2.2]
        rfl
      have hwm : IntKind.u64.wrap (m5 : Int) = m5 := by rw [wrap_u64]; omega
      have HQ := Lib.hid (And.intro O4 (And.intro R4 (And.intro b4 (And.intro h4 (And.intro l4 (And.intro hne (And.intro O5 (And.intro hn5 hm5))))))))
      clear O4 R4 b4 h4 l4 hne O5 hn5 hm5 hO hBr HR
      go_wp2_with (first
        | (at_builtin; (with_reducible refine Coin.app_any rfl (.tmp 19) (.tmp 22) rfl B (.slice A0 m0 c0) l [kb] (some ⟨wr.heap.size, 0, none⟩) 1 1 _ rfl rfl HQ.out.1 HQ.out.2.1 rfl (fun h => by cases h) HQ.out.2.2.2.2.1 HQ.out.2.2.2.1 B0 w0 HQ.out.2.2.1 hB0 ?_); (intro v6 w6 O6 B6 G6; have O5 := HQ.out.2.2.2.2.2.2.1.keptG G6 HQ.out.2.2.2.2.2.1; have hs6 := Nat.le_trans HQ.out.2.2.2.1 G6.size; obtain ⟨A6, c6, hv6, R6, -, -⟩ := O6.form; have hp6 := put_any A6 c6 (l ++ [kb]) m5 w6 (by omega) (by have := HX.out.2.2.2.1; simp; omega) R6; obtain ⟨m6, hm6⟩ : ∃ m6, m6 = (l ++ [kb]).length := ⟨_, rfl⟩; obtain ⟨z5, hz5⟩ : ∃ z5, z5 = sz m5 := ⟨_, rfl⟩; rw [← hm6, ← hz5] at hp6; rw [← hm6] at hv6; subst hv6; have HP6 := Lib.hid (And.intro hp6 (And.intro O5 (And.intro hs6 (And.intro B6 (And.intro hm6 hz5))))); clear hp6 O5 hs6 B6 G6 O6 R6 hm6 hz5))
        | (go_at_call 20; (with_reducible refine HP6.out.1.mono ?_); (rintro e w7 ⟨rfl, R7, B7⟩; have O7 := R7.own (B := B) HP6.out.2.2.1 (by have := HX.out.2.2.2.1; have := sz_le m5; simp [length_coin]; omega); have e7 : ((l ++ [kb]) ++ coin m5).length = m6 + z5 := (by rw [List.length_append, length_coin, ← HP6.out.2.2.2.2.1, ← HP6.out.2.2.2.2.2]); rw [e7] at O7; have O5 := HP6.out.2.1.kept B7; obtain ⟨A8, c8, hv8, R8, -, -⟩ := O5.form; rw [← HQ.out.2.2.2.2.2.2.2.2] at hv8; injection hv8 with q1 q2 q3; subst q1 q3; clear q2; have b7 := HP6.out.2.2.2.1.trans (B7.mono (Nat.le_trans hB0 HP6.out.2.2.1)); have HP7 := Lib.hid (And.intro O7 (And.intro R8 (And.intro b7 (And.intro (Nat.le_trans HP6.out.2.2.1 B7.size) (show ((l ++ [kb]) ++ coin m5).length + bs.length ≤ 1000000 from (by have h1 := HX.out.2.2.2.1; have h2 := HQ.out.2.2.2.2.2.2.2.2; have h3 := sz_le m5; simp only [length_coin, List.length_append, List.length_cons, List.length_nil]; omega)))))); clear O7 R7 B7 O5 R8 b7 e7))
        | (at_builtin; (with_reducible refine Coin.app_any rfl (.tmp 28) (.tmp 29) rfl B (.slice (some ⟨w6.heap.size, 0, none⟩) (m6 + z5) (m6 + z5)) ((l ++ [kb]) ++ coin m5) bs A5 m5 c5 _ rfl rfl HP7.out.1 HP7.out.2.1 HQ.out.2.2.2.2.2.2.2.2 HQ.out.2.2.2.2.2.2.2.1 HP7.out.2.2.2.2 HP7.out.2.2.2.1 B0 w0 HP7.out.2.2.1 hB0 ?_); (intro v9 w9 O9 B9 G9; have HP9 := Lib.hid (And.intro O9 B9); clear O9 B9 G9)))
      go_ret
      have hO9 := HP9.out.1
      rw [HQ.out.2.2.2.2.2.2.2.2] at hO9
      exact ⟨v9, rfl, by simpa using hO9, HP9.out.2⟩
end Go.Proofs.Ytecfblkagbdjlaa.Msg
