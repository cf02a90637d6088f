/-
  'For every input the Go function milestonelaw13.MessageReads returns true, and each argument reads behind the call as it read before.'
  Conditions: none but the row's own (linux/amd64, sizes of what is read within the address space).
-/
import Derived.Test.YtecfblkagbdjlaaRows
import Derived.WalkKit
import Derived.ProofKit
import Derived.OpenShut
import Derived.ShutString
import Derived.ChangeOld
import Derived.Below
import Derived.Lib.SmallJoins
import Derived.Lib.Hide
import Derived.Test.YtecfblkagbdjlaaMv
import Derived.WalkLawsBesides
import Derived.Deep.RegionHeld3
import Derived.Laws.BitsAllLaws
namespace Go.Proofs.Ytecfblkagbdjlaa.messageReads
open Go.Proofs.Ytecfblkagbdjlaa.Msg
open Tal (IsRow bytes_of)
open Coin (Own Rd Row CoinOwn)
open Go.ChangeShapes Go.WideShapes Go.ChangeAt Go.RowKit
open Go.ChangeMaps (open_string shut_string)
set_option linter.unusedVariables false

theorem own : ownKnob Try.prog.godebug = none := by kernel_rfl
theorem laidOut : laidOutB Try.prog = true := by kernel_rfl

set_option maxRecDepth 8000
/-- The law's box, and what stood. -/
structure Rg (w wx : World) (x : Pt) : Prop where
  bl : Below w.heap.size w wx
  r0 : wx.heap[w.heap.size]? = some (.cells #[.int .u8 (x.K : Int), .int .u64 (x.N : Int), .int .i64 x.Nd, .int .u32 (x.A : Int), .int .u8 (x.L : Int), .int .u16 (x.Sq : Int), .int .u16 (x.M : Int)] 28 (0, 0))
theorem Rg.lt {w wx : World} {x : Pt} (h : Rg w wx x) : w.heap.size < wx.heap.size := (Array.getElem?_eq_some_iff.1 h.r0).1
theorem Rg.step {w wx w' : World} {x : Pt} (h : Rg w wx x) (B : Below wx.heap.size wx w') : Rg w w' x :=
  ⟨h.bl.trans (B.mono h.bl.size), (B.block _ h.lt).trans h.r0⟩
/-- What stands in the list that the law goes through. -/
def Three (w : World) (g j : Nat) : Prop := ∃ A m c l, w.cell? ⟨g, j, none⟩ = some (.slice A m c) ∧ Rd w w.heap.size A l ∧ m = l.length ∧ m ≤ 70 ∧ (A = none → c = 0)

set_option maxHeartbeats 4000000 in
theorem walk (a0 : Option Addr) (len0 cap0 : Nat) (z0 : List Int) (a1 : Int) (x2 : Pt) (a3 : Int) (a4 : Int) (w : World) (w0 : IsRow .u8 w a0 len0 cap0 z0) (w1 : (Lit.int .u8 a1).wf = true) (w2 : x2.Fits) (w3 : (Lit.int .u8 a3).wf = true) (w4 : (Lit.int .u8 a4).wf = true) :
    Calls Try.prog 6 #[.slice a0 len0 cap0, .int .u8 a1, .agg #[.int .u8 (x2.K : Int), .int .u64 (x2.N : Int), .int .i64 x2.Nd, .int .u32 (x2.A : Int), .int .u8 (x2.L : Int), .int .u16 (x2.Sq : Int), .int .u16 (x2.M : Int)], .int .u8 a3, .int .u8 a4] w fun e w' => e = .returned (.bool true) ∧ Below w.heap.size w w' := by
  obtain ⟨p, hp1, hp2, hp3, RP, hpn⟩ := bytes_of w0
  have b1 := bounds_u8 w1
  have b3 := bounds_u8 w3
  have b4 := bounds_u8 w4
  obtain ⟨fr, rfl⟩ := Int.eq_ofNat_of_zero_le b1.1
  obtain ⟨at_, rfl⟩ := Int.eq_ofNat_of_zero_le b3.1
  obtain ⟨turn, rfl⟩ := Int.eq_ofNat_of_zero_le b4.1
  have hat : at_ < 256 := by omega
  have htn : turn < 256 := by omega
  by_cases h60 : 60 < len0
  · have h60' : (60 : Int) < (len0 : Int) := by omega
    have HB0 := Lib.hid ((Below.refl w.heap.size w).alloc (Nat.le_refl _) (.cells #[.int .u8 (x2.K : Int), .int .u64 (x2.N : Int), .int .i64 x2.Nd, .int .u32 (x2.A : Int), .int .u8 (x2.L : Int), .int .u16 (x2.Sq : Int), .int .u16 (x2.M : Int)] 28))
    clear hp1 hp2 hp3 RP hpn b1 b3 b4 w0 w1 w2 w3 w4 hat htn
    go_enter Try.func6, Try.ntmps6
    go_upto_region 2 with (go_at_call 12; (with_reducible refine (awake_any _).mono ?_); (rintro e w1 ⟨rfl, B1⟩; have HB1 := Lib.hid (HB0.out.trans (B1.mono HB0.out.size)); clear B1))
    go_wp2_with (go_at_call 12; (with_reducible refine (awake_any _).mono ?_); (rintro e w2 ⟨rfl, B2⟩; have HB2 := Lib.hid (HB1.out.trans (B2.mono HB1.out.size)); clear B2))
    go_ret
    exact ⟨rfl, HB2.out⟩
  · have h60' : ¬ (60 : Int) < (len0 : Int) := by omega
    have h60n : len0 ≤ 60 := by omega
    obtain ⟨f0, hf⟩ : ∃ f, f = fr % 16 := ⟨_, rfl⟩
    have hm1 : (fr : Int).tmod 16 = (f0 : Int) := by rw [Int.tmod_eq_emod_of_nonneg (by omega)]; omega
    have hw1 : IntKind.u8.wrap (f0 : Int) = f0 := by rw [IntKind.wrap_u8]; omega
    have hf16 : f0 < 256 := by omega
    have hfb : Coin.b8 (UInt8.ofNat f0) = .int .u8 (f0 : Int) := Coin.b8_small f0 hf16
    have hne := fun W => near_any x2 w2 W
    have hyf := near_fits w2
    have hby := fun W => rbytes_any x2.near hyf (near_rt _) W
    have hyl := x2.near.bytes_len
    generalize x2.near = y at *
    have HNe : Hid (∀ W, Calls Try.prog 8 #[.agg #[.int .u8 (x2.K : Int), .int .u64 (x2.N : Int), .int .i64 x2.Nd, .int .u32 (x2.A : Int), .int .u8 (x2.L : Int), .int .u16 (x2.Sq : Int), .int .u16 (x2.M : Int)]] W fun e w' => e = .returned (.agg #[.int .u8 (y.K : Int), .int .u64 (y.N : Int), .int .i64 y.Nd, .int .u32 (y.A : Int), .int .u8 (y.L : Int), .int .u16 (y.Sq : Int), .int .u16 (y.M : Int)]) ∧ Below W.heap.size W w') := hne
    have HBy : Hid (∀ W, Calls Try.prog 11 #[.agg #[.int .u8 (y.K : Int), .int .u64 (y.N : Int), .int .i64 y.Nd, .int .u32 (y.A : Int), .int .u8 (y.L : Int), .int .u16 (y.Sq : Int), .int .u16 (y.M : Int)]] W (CoinOwn W y.bytes)) := hby
    have HB0 : Hid (Rg w (w.alloc (.cells #[.int .u8 (x2.K : Int), .int .u64 (x2.N : Int), .int .i64 x2.Nd, .int .u32 (x2.A : Int), .int .u8 (x2.L : Int), .int .u16 (x2.Sq : Int), .int .u16 (x2.M : Int)] 28)) x2) := ⟨(Below.refl _ _).alloc (Nat.le_refl _) _, heap_alloc_new w _⟩
    have HP := Lib.hid (And.intro hp1 (And.intro RP hpn))
    have HFB := Lib.hid hfb
    clear hp1 hp2 hp3 RP hpn b1 b3 b4 w0 w1 w2 w3 w4 h60 hf hne hyf hby hfb
    go_enter Try.func6, Try.ntmps6
    go_upto_region 3 with (go_at_call 12; (with_reducible refine (awake_any _).mono ?_); (rintro e w1 ⟨rfl, B1⟩; have HB1 := Lib.hid (HB0.out.step B1); clear B1))
    have eb := HB1.out.lt
    obtain ⟨⟨q0, q1, q2, q3, q4, q5, q6⟩, -⟩ := row7 HB1.out.r0
    have RL : Row (w1.alloc (.cells #[.int .u8 1, .int .u8 (f0 : Int)] 5)) w1.heap.size [1, UInt8.ofNat f0] := by
      have h := Coin.Row.lit w1 [1, UInt8.ofNat f0]
      have e : (([1, UInt8.ofNat f0] : List UInt8).map Coin.b8).toArray = #[.int .u8 1, .int .u8 (f0 : Int)] := by
        simp only [List.map_cons, List.map_nil, HFB.out]; rfl
      rwa [e] at h
    have HRL := Lib.hid (And.intro (show Own _ w1.heap.size (.slice (some ⟨w1.heap.size, 0, none⟩) 2 2) [1, UInt8.ofNat f0] from RL.own (B := w1.heap.size) (Nat.le_refl _) (by simp)) ((Below.refl w1.heap.size w1).alloc (Nat.le_refl _) (.cells #[.int .u8 1, .int .u8 (f0 : Int)] 5)))
    clear RL
    generalize UInt8.ofNat f0 = fb at *
    go_upto_region 4 with (first
      | (go_at_call 8; (with_reducible refine (HNe.out _).mono ?_); (rintro e w3 ⟨rfl, B3⟩; have HR3 := Lib.hid (And.intro (HRL.out.1.kept B3) (HRL.out.2.trans (B3.mono HRL.out.2.size))); clear B3))
      | (go_at_call 11; (with_reducible refine (HBy.out _).mono ?_); (rintro e w4 ⟨v4, rfl, O4, B4⟩; obtain ⟨A4, c4, hv4, R4, -, hn4⟩ := O4.form; obtain ⟨m4, hm4⟩ : ∃ m, m = y.bytes.length := ⟨_, rfl⟩; rw [← hm4] at hv4; subst hv4; have HR4 := Lib.hid (And.intro (HR3.out.1.kept B4) (And.intro (HR3.out.2.trans (B4.mono HR3.out.2.size)) (And.intro R4 (And.intro hm4 hn4)))); clear O4 B4 R4 hm4 hn4))
      | (at_builtin; (with_reducible refine Coin.app_any rfl (.tmp 27) (.tmp 30) rfl w1.heap.size (.slice (some ⟨w1.heap.size, 0, none⟩) 2 2) [1, fb] y.bytes A4 m4 c4 _ rfl rfl HR4.out.1 HR4.out.2.2.1 HR4.out.2.2.2.1 HR4.out.2.2.2.2 (by simp; omega) HR4.out.2.1.size w1.heap.size w1 HR4.out.2.1 (Nat.le_refl _) ?_); (intro v5 w5 O5 B5 G5; have HR5 := Lib.hid (And.intro O5 B5); clear O5 B5 G5)))
    clear q0 q1 q2 q3 q4 q5 q6 eb
    have hQl : ([1, fb] ++ y.bytes).length ≤ 57 ∧ 2 ≤ ([1, fb] ++ y.bytes).length := by simp; omega
    generalize [1, fb] ++ y.bytes = Q0 at *
    obtain ⟨g, cap, hv5, hg5, hc5⟩ := own_head HR5.out.1 (by omega)
    subst hv5
    obtain ⟨L, hL⟩ : ∃ L, L = Q0.length := ⟨_, rfl⟩
    obtain ⟨k, hk0⟩ : ∃ k, k = at_ % L := ⟨_, rfl⟩
    have hkl : k < L := by rw [hk0]; exact Nat.mod_lt _ (by omega)
    have hkk : ((at_ : Int) % (L : Int)) = (k : Int) := by rw [hk0]; simp
    have hkt : ((at_ : Int).tmod (L : Int)) = (k : Int) := by rw [Int.tmod_eq_emod_of_nonneg (by omega)]; exact hkk
    have hQk : k < Q0.length := by omega
    have hxl : (Q0[k]).toNat ^^^ turn < 256 := Nat.xor_lt_two_pow (n := 8) (UInt8.toNat_lt _) (by omega)
    have hxr := u8_xor_nat (Q0[k]).toNat turn (UInt8.toNat_lt _) (by omega)
    have O' := own_set HR5.out.1 rfl k (UInt8.ofNat ((Q0[k]).toNat ^^^ turn))
    have hcell : w5.cell? ⟨g, k, none⟩ = some (.int .u8 ((Q0[k]).toNat : Int)) := own_at HR5.out.1 rfl k hQk
    have hfz := own_ice HR5.out.1 rfl k
    have ebb : Coin.b8 (UInt8.ofNat ((Q0[k]).toNat ^^^ turn)) = .int .u8 (((Q0[k]).toNat ^^^ turn : Nat) : Int) := Coin.b8_small _ hxl
    rw [ebb] at O'
    have B6 := HR5.out.2.setCell (p := ⟨g, k, none⟩) hg5 (.int .u8 (((Q0[k]).toNat ^^^ turn : Nat) : Int))
    have e5 : g < w5.heap.size := (HR5.out.1.lt g rfl).2
    rw [← hL] at O' hc5 hQl ⊢
    have hQ1 : (Q0.set k (UInt8.ofNat ((Q0[k]).toNat ^^^ turn))).length = L := by rw [List.length_set, hL]
    generalize Q0.set k (UInt8.ofNat ((Q0[k]).toNat ^^^ turn)) = Q1 at *
    generalize (Q0[k]).toNat ^^^ turn = xx at *
    generalize (Q0[k]).toNat = x0 at *
    have HO := Lib.hid (And.intro O' (And.intro B6 hQ1))
    have hL2 : L ≤ 57 := hQl.1
    have hL3 : 2 ≤ L := hQl.2
    have hwa : IntKind.i64.wrap (at_ : Int) = at_ := by rw [IntKind.wrap_i64]; omega
    have hwk : IntKind.i64.wrap (k : Int) = k := by rw [IntKind.wrap_i64]; omega
    clear O' B6 ebb hk0 hL hQ1 hQl hQk hxl HR5 hyl
    go_upto_region 5 with (fail)
    generalize World.setCell _ _ _ = w6 at *
    clear hcell hfz e5
    have B6s := HB1.out.bl.trans (HO.out.2.1.mono HB1.out.bl.size)
    have HB6 := Lib.hid B6s
    have RO := Coin.Row.lit w6 [1]
    have HRO := Lib.hid (And.intro (show Own (w6.alloc (.cells #[.int .u8 1] 5)) w6.heap.size (.slice (some ⟨w6.heap.size, 0, none⟩) 1 1) [1] from RO.own (B := w6.heap.size) (Nat.le_refl _) (by decide)) (And.intro ((Below.refl w6.heap.size w6).alloc (Nat.le_refl _) (.cells #[.int .u8 1] 5)) (show Rd (w6.alloc (.cells #[.int .u8 1] 5)) w.heap.size a0 p from Coin.Rd.below (show Coin.Rd w w.heap.size a0 p from HP.out.2.1) (B6s.alloc B6s.size _) (Nat.le_refl _))))
    clear RO B6s
    go_wp2_with (at_builtin; (with_reducible refine Coin.app_any rfl (.tmp 45) (.tmp 46) rfl w6.heap.size (.slice (some ⟨w6.heap.size, 0, none⟩) 1 1) [1] p a0 len0 cap0 _ rfl rfl HRO.out.1 HRO.out.2.2 HP.out.1 HP.out.2.2 (by have := HP.out.1; simp; omega) HRO.out.2.1.size w6.heap.size w6 HRO.out.2.1 (Nat.le_refl _) ?_); (intro v7 w7 O7 B7 G7; obtain ⟨A7, c7, hv7, -, -, hn7⟩ := O7.form; obtain ⟨m7, hm7⟩ : ∃ m, m = ([1] ++ p).length := ⟨_, rfl⟩; rw [← hm7] at hv7; subst hv7; have H7 := Lib.hid (And.intro O7 (And.intro B7 (And.intro hm7 hn7))); clear O7 B7 G7 hm7 hn7))
    have hz := heap_alloc_new w7 (.cells #[.slice a0 len0 cap0, .slice (some ⟨g, 0, none⟩) L cap, .slice A7 m7 c7] 30)
    have Bz : Below w7.heap.size w7 (w7.alloc (.cells #[.slice a0 len0 cap0, .slice (some ⟨g, 0, none⟩) L cap, .slice A7 m7 c7] 30)) := (Below.refl _ _).alloc (Nat.le_refl _) _
    have B6z := H7.out.2.1.trans (Bz.mono H7.out.2.1.size)
    have HBz := Lib.hid (HB6.out.trans (B6z.mono HB6.out.size))
    have r0 : Rd (w7.alloc (.cells #[.slice a0 len0 cap0, .slice (some ⟨g, 0, none⟩) L cap, .slice A7 m7 c7] 30)) _ a0 p := (Coin.Rd.below (show Coin.Rd w w.heap.size a0 p from HP.out.2.1) HBz.out (Nat.le_refl _)).more HBz.out.size
    have r1 := (HO.out.1.kept B6z).rd
    have r2 := (H7.out.1.kept Bz).rd
    have HTh : Hid (∀ j, j < 3 → Three (w7.alloc (.cells #[.slice a0 len0 cap0, .slice (some ⟨g, 0, none⟩) L cap, .slice A7 m7 c7] 30)) w7.heap.size j) := fun j hj => by
      have hc : ∀ i v, (#[.slice a0 len0 cap0, .slice (some ⟨g, 0, none⟩) L cap, .slice A7 m7 c7] : Array Value)[i]? = some v → (w7.alloc (.cells #[.slice a0 len0 cap0, .slice (some ⟨g, 0, none⟩) L cap, .slice A7 m7 c7] 30)).cell? ⟨w7.heap.size, i, none⟩ = some v := fun i v h => by rw [cell_of_row _ w7.heap.size i _ 30 (0, 0) hz]; exact h
      have h3 : j = 0 ∨ j = 1 ∨ j = 2 := by omega
      rcases h3 with rfl | rfl | rfl
      · exact ⟨a0, len0, cap0, p, hc 0 _ rfl, r0, HP.out.1, by omega, HP.out.2.2⟩
      · exact ⟨_, L, cap, Q1, hc 1 _ rfl, r1, HO.out.2.2.symm, by omega, fun h => by cases h⟩
      · exact ⟨A7, m7, c7, [1] ++ p, hc 2 _ rfl, r2, H7.out.2.2.1, by have h1 := H7.out.2.2.1; have h2 := HP.out.1; simp at h1; omega, H7.out.2.2.2⟩
    have hgz : w7.heap.size < (w7.alloc (.cells #[.slice a0 len0 cap0, .slice (some ⟨g, 0, none⟩) L cap, .slice A7 m7 c7] 30)).heap.size := by simp
    have HGZ := Lib.hid hgz
    clear hz Bz B6z r0 r1 r2 hgz HB0
    generalize w7.alloc _ = wz at *
    generalize w7.heap.size = gz at *
    go_loopw [50] (fun i wr => ∃ j : Nat, j ≤ 3 ∧ i = .int .i64 j ∧ Hid (Below wz.heap.size wz wr)) (fun i _ => 3 - (intOf i).toNat)
    case atStart => exact ⟨0, by omega, rfl, Below.refl _ _⟩
    case round =>
      obtain ⟨j, hj, rfl, HW⟩ := hrel
      by_cases hlt : j < 3
      · obtain ⟨A, m, c, l, hcj, hrj, hmj, h70, hAj⟩ := HTh.out j hlt
        have c0 : wr.cell? ⟨gz, j, none⟩ = some (.slice A m c) := by rw [World.cell?_of_block (HW.out.block gz HGZ.out)]; exact hcj
        have HPk : Hid (∀ W, Below wz.heap.size wz W → Calls Try.prog 14 #[.slice A m c] W (CoinOwn W (sealB l))) := fun W h => packet_any W A m c wz.heap.size l hmj (by omega) (Coin.Rd.below hrj h (Nat.le_refl _)) h.size hAj
        obtain ⟨er, f, xs, u, hd⟩ : ∃ er f xs u, dec (sealB l) = (er, f, xs, u) := ⟨_, _, _, _, rfl⟩
        have hsl : (sealB l).length ≤ 80 := by rw [seal_len]; omega
        have hdl := dec_len (sealB l)
        have hdu := dec_u (sealB l)
        have hds := dec_sound l f xs
        have hdc : ∀ W A' m' c', m' = (sealB l).length → Rd W W.heap.size A' (sealB l) → m' ≤ c' → (A' = none → c' = 0) → Calls Try.prog 16 #[.slice A' m' c'] W (DecSaid W (er, f, xs, u)) := fun W A' m' c' h1 h3 h4 h5 => by
          have h := dec_any A' m' c' (sealB l) W h1 (by omega) h3 h4 h5
          rwa [hd] at h
        rw [hd] at hdl hdu
        simp only at hdl hdu
        have hds' : er = 0 → u = 0 → enc f xs = sealB l ∧ f < 16 ∧ (∀ x ∈ xs, x.Fits) := fun h1 h2 => hds (by rw [hd, h1, h2])
        obtain ⟨n, hn⟩ : ∃ n, n = xs.length := ⟨_, rfl⟩
        have hdc : ∀ W A' m' c', m' = (sealB l).length → Rd W W.heap.size A' (sealB l) → m' ≤ c' → (A' = none → c' = 0) → Calls Try.prog 16 #[.slice A' m' c'] W fun e w' => ∃ At ct, e = .returned (.tuple #[.agg #[.int .i64 (f : Int), .slice At n ct], .int .i64 (u : Int), .int .i64 (er : Int)]) ∧ PSl w' At xs ∧ Below W.heap.size W w' := fun W A' m' c' h1 h3 h4 h5 => by
          rw [hn]; exact hdc W A' m' c' h1 h3 h4 h5
        generalize sealB l = T at *
        have HD := Lib.hid (And.intro hdc (And.intro hdl (And.intro hdu (And.intro hds' hn))))
        clear hcj hrj hmj hAj hd hsl hdl hdu hds hds' hdc hn
        go_upto_region 9 with (first
          | (go_at_call 14; (with_reducible refine (HPk.out _ HW.out).mono ?_); (rintro e w8 ⟨v8, rfl, O8, B8⟩; obtain ⟨A8, c8, hv8, R8, hc8, hn8⟩ := O8.form; obtain ⟨m8, hm8⟩ : ∃ m, m = T.length := ⟨_, rfl⟩; rw [← hm8] at hv8 hc8; subst hv8; have H8 := Lib.hid (And.intro R8 (And.intro hm8 (And.intro hc8 (And.intro hn8 (HW.out.trans (B8.mono HW.out.size)))))); clear O8 B8 R8 hm8 hc8 hn8))
          | (go_at_call 16; (with_reducible refine (HD.out.1 _ A8 m8 c8 H8.out.2.1 H8.out.1 H8.out.2.2.1 H8.out.2.2.2.1).mono ?_); (rintro e w9 ⟨At, ct, rfl, S9, B9⟩; have H9 := Lib.hid (And.intro S9 (H8.out.2.2.2.2.trans (B9.mono H8.out.2.2.2.2.size))); clear S9 B9)))
        have Bt := (Below.refl w9.heap.size w9).alloc (Nat.le_refl _) (.cells #[.int .i64 (f : Int), .slice At n ct] 34)
        have hrt := heap_alloc_new w9 (.cells #[.int .i64 (f : Int), .slice At n ct] 34)
        have HWt := Lib.hid (H9.out.2.trans (Bt.mono H9.out.2.size))
        have HSt := Lib.hid (H9.out.1.below Bt)
        clear Bt H9 H8 c0
        generalize w9.alloc _ = wt at *
        generalize w9.heap.size = gt at *
        have HRt : Hid (∀ W, Below wt.heap.size wt W → W.heap[gt]? = some (.cells #[.int .i64 (f : Int), .slice At n ct] 34 (0, 0))) := fun W h => (h.block gt (Array.getElem?_eq_some_iff.1 hrt).1).trans hrt
        clear hrt
        by_cases her : er = 0
        · subst her
          by_cases hu : u = 0
          · subst hu
            have hs := HD.out.2.2.2.1 rfl rfl
            have hnl := HD.out.2.1 rfl
            have HEn : Hid (∀ W, Below wt.heap.size wt W → Calls Try.prog 9 #[.agg #[.int .i64 (f : Int), .slice At n ct]] W (CoinOwn W T)) := fun W h => by
              have h1 := enc_any W f n ct At xs (by omega) HD.out.2.2.2.2 (by have := HD.out.2.2.2.2; omega) (HSt.out.below h) hs.2.2
              rw [hs.1] at h1
              exact h1
            have HPk2 : Hid (∀ W, Below wt.heap.size wt W → Calls Try.prog 14 #[.slice A m c] W (CoinOwn W T)) := fun W h => HPk.out W (HWt.out.trans (h.mono HWt.out.size))
            obtain ⟨ST, hST⟩ : ∃ ST, Coin.str T = ST := ⟨_, rfl⟩
            have HST := Lib.hid hST
            clear hST hs hnl HD
            refine wp_region_noPanic ?_
            refine wp_region_held_drew (S := fun W : World => Below wt.heap.size wt W) (by kernel_rfl) ((Below.refl _ _).drew) (fun hHeld => ?_)
            generalize wt.drew = wd at *
            refine wpAnyH_take (i := 0) (oi := { dst := some 61, op := Op.move (Operand.tmp 16), type := 41, pos := "law.go:170", after := #[], guard := none }) (v := .int .i64 0) rfl (by kernel_rfl) (by kernel_rfl) (by kernel_rfl) (fun _ _ _ h => h) (Or.inl ⟨by rfl, fun w hSw => by go_simp⟩) (by assumption) ?_
            try simp only [Act.put, List.setIfInBounds_toArray, List.set_cons_zero, List.set_cons_succ]
            refine wpAnyH_take (i := 1) (oi := { dst := some 62, op := Op.binOp BinOp.eql 41 (Operand.tmp 61) (Operand.const (Value.int IntKind.i64 0)) 41, type := 4, pos := "law.go:170", after := #[{ on := 0, ground := Ground.data }], guard := none }) (v := .bool true) rfl (by kernel_rfl) (by kernel_rfl) (by kernel_rfl) (fun _ _ _ h => h) (Or.inl ⟨by rfl, fun w hSw => by go_simp⟩) (by assumption) ?_
            try simp only [Act.put, List.setIfInBounds_toArray, List.set_cons_zero, List.set_cons_succ]
            refine wpAnyH_take (i := 2) (oi := { dst := some 63, op := Op.move (Operand.tmp 62), type := 4, pos := "law.go:170", after := #[{ on := 1, ground := Ground.data }], guard := none }) (v := .bool true) rfl (by kernel_rfl) (by kernel_rfl) (by kernel_rfl) (fun _ _ _ h => h) (Or.inl ⟨by rfl, fun w hSw => by go_simp⟩) (by assumption) ?_
            try simp only [Act.put, List.setIfInBounds_toArray, List.set_cons_zero, List.set_cons_succ]
            refine wpAnyH_take (i := 3) (oi := { dst := some 64, op := Op.move (Operand.tmp 15), type := 3, pos := "law.go:170", after := #[{ on := 2, ground := Ground.guard }], guard := some (2, true) }) (v := .int .i64 0) rfl (by kernel_rfl) (by kernel_rfl) (by kernel_rfl) (fun _ _ _ h => h) (Or.inl ⟨by rfl, fun w hSw => by go_simp⟩) (by assumption) ?_
            try simp only [Act.put, List.setIfInBounds_toArray, List.set_cons_zero, List.set_cons_succ]
            refine wpAnyH_take (i := 4) (oi := { dst := some 65, op := Op.binOp BinOp.eql 3 (Operand.tmp 64) (Operand.const (Value.int IntKind.i64 0)) 3, type := 4, pos := "law.go:170", after := #[{ on := 3, ground := Ground.data }, { on := 2, ground := Ground.guard }], guard := some (2, true) }) (v := .bool true) rfl (by kernel_rfl) (by kernel_rfl) (by kernel_rfl) (fun _ _ _ h => h) (Or.inl ⟨by rfl, fun w hSw => by go_simp⟩) (by assumption) ?_
            try simp only [Act.put, List.setIfInBounds_toArray, List.set_cons_zero, List.set_cons_succ]
            refine wpAnyH_take (i := 5) (oi := { dst := some 66, op := Op.pick (Operand.tmp 63) (Operand.tmp 65) (Operand.const (Value.bool false)), type := 4, pos := "law.go:170", after := #[{ on := 2, ground := Ground.data }, { on := 4, ground := Ground.data }], guard := none }) (v := .bool true) rfl (by kernel_rfl) (by kernel_rfl) (by kernel_rfl) (fun _ _ _ h => h) (Or.inl ⟨by rfl, fun w hSw => by go_simp⟩) (by assumption) ?_
            try simp only [Act.put, List.setIfInBounds_toArray, List.set_cons_zero, List.set_cons_succ]
            refine wpAnyH_take (i := 6) (oi := { dst := some 67, op := Op.move (Operand.tmp 66), type := 4, pos := "law.go:170", after := #[{ on := 5, ground := Ground.data }, { on := 2, ground := Ground.chain }], guard := none }) (v := .bool true) rfl (by kernel_rfl) (by kernel_rfl) (by kernel_rfl) (fun _ _ _ h => h) (Or.inl ⟨by rfl, fun w hSw => by go_simp⟩) (by assumption) ?_
            try simp only [Act.put, List.setIfInBounds_toArray, List.set_cons_zero, List.set_cons_succ]
            refine wpAnyH_take (i := 7) (oi := { dst := some 68, op := Op.load 34 (Operand.tmp 14), type := 34, pos := "law.go:170", after := #[{ on := 6, ground := Ground.guard }], guard := some (6, true) }) (v := .agg #[.int .i64 (f : Int), .slice At n ct]) rfl (by kernel_rfl) (by kernel_rfl) (by kernel_rfl) (fun _ _ _ h => h) (Or.inl ⟨by rfl, fun w hSw => by obtain ⟨⟨q0, q1⟩, -, -⟩ := row2b (HRt.out _ hSw); go_simp⟩) (by assumption) ?_
            try simp only [Act.put, List.setIfInBounds_toArray, List.set_cons_zero, List.set_cons_succ]
            refine wpAnyH_take (i := 10) (oi := { dst := some 71, op := Op.move (Operand.tmp 13), type := 30, pos := "law.go:170", after := #[{ on := 6, ground := Ground.guard }], guard := some (6, true) }) (v := .slice A m c) rfl (by kernel_rfl) (by kernel_rfl) (by kernel_rfl) (fun _ _ _ h => h) (Or.inl ⟨by rfl, fun w hSw => by go_simp⟩) (by assumption) ?_
            try simp only [Act.put, List.setIfInBounds_toArray, List.set_cons_zero, List.set_cons_succ]
            refine wpAnyH_ready (rs := [8]) (by kernel_rfl) (by simp) ?_
            refine AllReadyH.cons (o := { dst := some 69, op := Op.call { callee := Callee.value (Operand.func 9), args := #[Operand.tmp 68], argTypes := #[34] }, type := 30, pos := "law.go:170", after := #[{ on := 7, ground := Ground.data }, { on := 6, ground := Ground.chain }, { on := 6, ground := Ground.guard }], guard := some (6, true) }) rfl (fun K hK => ?_) AllReadyH.nil
            go_simp
            with_reducible refine (HEn.out _ hHeld).mono ?_
            rintro e wd ⟨v8, rfl, O8, B8⟩
            have hb := hHeld.trans (B8.mono hHeld.size)
            obtain ⟨A8, c8, hv8, R8, -, -⟩ := O8.form
            obtain ⟨m8, hm8⟩ : ∃ m, m = T.length := ⟨_, rfl⟩
            rw [← hm8] at hv8
            subst hv8
            have HM8 := Lib.hid hm8
            clear hm8 B8 O8
            refine hK.out _ _ (hb) (fun hHeld => ?_)
            clear hK K
            try simp only [Act.put, List.setIfInBounds_toArray, List.set_cons_zero, List.set_cons_succ]
            clear hb
            refine wpAnyH_ready (rs := [9, 11]) (by kernel_rfl) (by simp) ?_
            refine (AllReadyH.cons (o := { dst := some 70, op := Op.convert 30 9 (Operand.tmp 69), type := 9, pos := "law.go:170", after := #[{ on := 8, ground := Ground.data }, { on := 6, ground := Ground.guard }], guard := some (6, true) }) rfl (fun K hK => ?_) (AllReadyH.cons (o := { dst := some 72, op := Op.call { callee := Callee.value (Operand.func 14), args := #[Operand.tmp 71], argTypes := #[30] }, type := 30, pos := "law.go:170", after := #[{ on := 10, ground := Ground.data }, { on := 8, ground := Ground.chain }, { on := 6, ground := Ground.guard }], guard := some (6, true) }) rfl (fun K hK => ?_) AllReadyH.nil))
            · have hc := Coin.conv_any R8 m8 c8 HM8.out
              rw [HST.out] at hc
              go_simp
              refine hK.out _ _ (hHeld) (fun hHeld => ?_)
              clear hK K
              try simp only [Act.put, List.setIfInBounds_toArray, List.set_cons_zero, List.set_cons_succ]
              clear hc
              refine wpAnyH_ready (rs := [11]) (by kernel_rfl) (by simp) ?_
              refine AllReadyH.cons (o := { dst := some 72, op := Op.call { callee := Callee.value (Operand.func 14), args := #[Operand.tmp 71], argTypes := #[30] }, type := 30, pos := "law.go:170", after := #[{ on := 10, ground := Ground.data }, { on := 8, ground := Ground.chain }, { on := 6, ground := Ground.guard }], guard := some (6, true) }) rfl (fun K hK => ?_) AllReadyH.nil
              go_simp
              with_reducible refine (HPk2.out _ hHeld).mono ?_
              rintro e wd ⟨v11, rfl, O11, B11⟩
              have hb := hHeld.trans (B11.mono hHeld.size)
              obtain ⟨A11, c11, hv11, R11, -, -⟩ := O11.form
              obtain ⟨m11, hm11⟩ : ∃ m, m = T.length := ⟨_, rfl⟩
              rw [← hm11] at hv11
              subst hv11
              have HM11 := Lib.hid hm11
              replace R8 := (R8.below B11 (Nat.le_refl _)).more B11.size
              clear hm11 B11 O11
              refine hK.out _ _ (hb) (fun hHeld => ?_)
              clear hK K
              try simp only [Act.put, List.setIfInBounds_toArray, List.set_cons_zero, List.set_cons_succ]
              clear hb
              refine wpAnyH_ready (rs := [12]) (by kernel_rfl) (by simp) ?_
              refine AllReadyH.cons (o := { dst := some 73, op := Op.convert 30 9 (Operand.tmp 72), type := 9, pos := "law.go:170", after := #[{ on := 11, ground := Ground.data }, { on := 6, ground := Ground.guard }], guard := some (6, true) }) rfl (fun K hK => ?_) AllReadyH.nil
              have hc := Coin.conv_any R11 m11 c11 HM11.out
              rw [HST.out] at hc
              go_simp
              refine hK.out _ _ (hHeld) (fun hHeld => ?_)
              clear hK K
              try simp only [Act.put, List.setIfInBounds_toArray, List.set_cons_zero, List.set_cons_succ]
              clear hc
              refine wpAnyH_take (i := 13) (oi := { dst := some 74, op := Op.binOp BinOp.neq 9 (Operand.tmp 70) (Operand.tmp 73) 9, type := 4, pos := "law.go:170", after := #[{ on := 9, ground := Ground.data }, { on := 12, ground := Ground.data }, { on := 6, ground := Ground.guard }], guard := some (6, true) }) (v := .bool false) rfl (by kernel_rfl) (by kernel_rfl) (by kernel_rfl) (fun _ _ _ h => h) (Or.inl ⟨by rfl, fun w hSw => by go_simp⟩) (by assumption) ?_
              try simp only [Act.put, List.setIfInBounds_toArray, List.set_cons_zero, List.set_cons_succ]
              refine wpAnyH_take (i := 14) (oi := { dst := some 75, op := Op.pick (Operand.tmp 67) (Operand.tmp 74) (Operand.const (Value.bool false)), type := 4, pos := "law.go:170", after := #[{ on := 6, ground := Ground.data }, { on := 13, ground := Ground.data }], guard := none }) (v := .bool false) rfl (by kernel_rfl) (by kernel_rfl) (by kernel_rfl) (fun _ _ _ h => h) (Or.inl ⟨by rfl, fun w hSw => by go_simp⟩) (by assumption) ?_
              try simp only [Act.put, List.setIfInBounds_toArray, List.set_cons_zero, List.set_cons_succ]
              have HE := Lib.hid hHeld
              clear hHeld
              refine wpAnyH_done (by kernel_rfl) ?_ _
              try unfold NoPanic
              obtain ⟨⟨q0, q1⟩, -, -⟩ := row2b (HRt.out _ HE.out)
              go_wp2
              go_roundw
              case rel => exact ⟨j + 1, by omega, by go_num, HWt.out.trans (HE.out.mono HWt.out.size)⟩
              case measure => simp [intOf]; omega
            · go_simp
              with_reducible refine (HPk2.out _ hHeld).mono ?_
              rintro e wd ⟨v11, rfl, O11, B11⟩
              have hb := hHeld.trans (B11.mono hHeld.size)
              obtain ⟨A11, c11, hv11, R11, -, -⟩ := O11.form
              obtain ⟨m11, hm11⟩ : ∃ m, m = T.length := ⟨_, rfl⟩
              rw [← hm11] at hv11
              subst hv11
              have HM11 := Lib.hid hm11
              replace R8 := (R8.below B11 (Nat.le_refl _)).more B11.size
              clear hm11 B11 O11
              refine hK.out _ _ (hb) (fun hHeld => ?_)
              clear hK K
              try simp only [Act.put, List.setIfInBounds_toArray, List.set_cons_zero, List.set_cons_succ]
              clear hb
              refine wpAnyH_ready (rs := [9, 12]) (by kernel_rfl) (by simp) ?_
              refine (AllReadyH.cons (o := { dst := some 70, op := Op.convert 30 9 (Operand.tmp 69), type := 9, pos := "law.go:170", after := #[{ on := 8, ground := Ground.data }, { on := 6, ground := Ground.guard }], guard := some (6, true) }) rfl (fun K hK => ?_) (AllReadyH.cons (o := { dst := some 73, op := Op.convert 30 9 (Operand.tmp 72), type := 9, pos := "law.go:170", after := #[{ on := 11, ground := Ground.data }, { on := 6, ground := Ground.guard }], guard := some (6, true) }) rfl (fun K hK => ?_) AllReadyH.nil))
              · have hc := Coin.conv_any R8 m8 c8 HM8.out
                rw [HST.out] at hc
                go_simp
                refine hK.out _ _ (hHeld) (fun hHeld => ?_)
                clear hK K
                try simp only [Act.put, List.setIfInBounds_toArray, List.set_cons_zero, List.set_cons_succ]
                clear hc
                refine wpAnyH_ready (rs := [12]) (by kernel_rfl) (by simp) ?_
                refine AllReadyH.cons (o := { dst := some 73, op := Op.convert 30 9 (Operand.tmp 72), type := 9, pos := "law.go:170", after := #[{ on := 11, ground := Ground.data }, { on := 6, ground := Ground.guard }], guard := some (6, true) }) rfl (fun K hK => ?_) AllReadyH.nil
                have hc := Coin.conv_any R11 m11 c11 HM11.out
                rw [HST.out] at hc
                go_simp
                refine hK.out _ _ (hHeld) (fun hHeld => ?_)
                clear hK K
                try simp only [Act.put, List.setIfInBounds_toArray, List.set_cons_zero, List.set_cons_succ]
                clear hc
                refine wpAnyH_take (i := 13) (oi := { dst := some 74, op := Op.binOp BinOp.neq 9 (Operand.tmp 70) (Operand.tmp 73) 9, type := 4, pos := "law.go:170", after := #[{ on := 9, ground := Ground.data }, { on := 12, ground := Ground.data }, { on := 6, ground := Ground.guard }], guard := some (6, true) }) (v := .bool false) rfl (by kernel_rfl) (by kernel_rfl) (by kernel_rfl) (fun _ _ _ h => h) (Or.inl ⟨by rfl, fun w hSw => by go_simp⟩) (by assumption) ?_
                try simp only [Act.put, List.setIfInBounds_toArray, List.set_cons_zero, List.set_cons_succ]
                refine wpAnyH_take (i := 14) (oi := { dst := some 75, op := Op.pick (Operand.tmp 67) (Operand.tmp 74) (Operand.const (Value.bool false)), type := 4, pos := "law.go:170", after := #[{ on := 6, ground := Ground.data }, { on := 13, ground := Ground.data }], guard := none }) (v := .bool false) rfl (by kernel_rfl) (by kernel_rfl) (by kernel_rfl) (fun _ _ _ h => h) (Or.inl ⟨by rfl, fun w hSw => by go_simp⟩) (by assumption) ?_
                try simp only [Act.put, List.setIfInBounds_toArray, List.set_cons_zero, List.set_cons_succ]
                have HE := Lib.hid hHeld
                clear hHeld
                refine wpAnyH_done (by kernel_rfl) ?_ _
                try unfold NoPanic
                obtain ⟨⟨q0, q1⟩, -, -⟩ := row2b (HRt.out _ HE.out)
                go_wp2
                go_roundw
                case rel => exact ⟨j + 1, by omega, by go_num, HWt.out.trans (HE.out.mono HWt.out.size)⟩
                case measure => simp [intOf]; omega
              · have hc := Coin.conv_any R11 m11 c11 HM11.out
                rw [HST.out] at hc
                go_simp
                refine hK.out _ _ (hHeld) (fun hHeld => ?_)
                clear hK K
                try simp only [Act.put, List.setIfInBounds_toArray, List.set_cons_zero, List.set_cons_succ]
                clear hc
                refine wpAnyH_ready (rs := [9]) (by kernel_rfl) (by simp) ?_
                refine AllReadyH.cons (o := { dst := some 70, op := Op.convert 30 9 (Operand.tmp 69), type := 9, pos := "law.go:170", after := #[{ on := 8, ground := Ground.data }, { on := 6, ground := Ground.guard }], guard := some (6, true) }) rfl (fun K hK => ?_) AllReadyH.nil
                have hc := Coin.conv_any R8 m8 c8 HM8.out
                rw [HST.out] at hc
                go_simp
                refine hK.out _ _ (hHeld) (fun hHeld => ?_)
                clear hK K
                try simp only [Act.put, List.setIfInBounds_toArray, List.set_cons_zero, List.set_cons_succ]
                clear hc
                refine wpAnyH_take (i := 13) (oi := { dst := some 74, op := Op.binOp BinOp.neq 9 (Operand.tmp 70) (Operand.tmp 73) 9, type := 4, pos := "law.go:170", after := #[{ on := 9, ground := Ground.data }, { on := 12, ground := Ground.data }, { on := 6, ground := Ground.guard }], guard := some (6, true) }) (v := .bool false) rfl (by kernel_rfl) (by kernel_rfl) (by kernel_rfl) (fun _ _ _ h => h) (Or.inl ⟨by rfl, fun w hSw => by go_simp⟩) (by assumption) ?_
                try simp only [Act.put, List.setIfInBounds_toArray, List.set_cons_zero, List.set_cons_succ]
                refine wpAnyH_take (i := 14) (oi := { dst := some 75, op := Op.pick (Operand.tmp 67) (Operand.tmp 74) (Operand.const (Value.bool false)), type := 4, pos := "law.go:170", after := #[{ on := 6, ground := Ground.data }, { on := 13, ground := Ground.data }], guard := none }) (v := .bool false) rfl (by kernel_rfl) (by kernel_rfl) (by kernel_rfl) (fun _ _ _ h => h) (Or.inl ⟨by rfl, fun w hSw => by go_simp⟩) (by assumption) ?_
                try simp only [Act.put, List.setIfInBounds_toArray, List.set_cons_zero, List.set_cons_succ]
                have HE := Lib.hid hHeld
                clear hHeld
                refine wpAnyH_done (by kernel_rfl) ?_ _
                try unfold NoPanic
                obtain ⟨⟨q0, q1⟩, -, -⟩ := row2b (HRt.out _ HE.out)
                go_wp2
                go_roundw
                case rel => exact ⟨j + 1, by omega, by go_num, HWt.out.trans (HE.out.mono HWt.out.size)⟩
                case measure => simp [intOf]; omega
          · have hub : ((u : Int) == 0) = false := by simp; omega
            have hun : ((u : Int) != 0) = true := by simp; omega
            have HUr := Lib.hid hub
            clear HD
            refine wp_region_noPanic ?_
            refine wp_region_held_drew (S := fun W : World => Below wt.heap.size wt W) (by kernel_rfl) ((Below.refl _ _).drew) (fun hHeld => ?_)
            generalize wt.drew = wd at *
            refine wpAnyH_take (i := 0) (oi := { dst := some 61, op := Op.move (Operand.tmp 16), type := 41, pos := "law.go:170", after := #[], guard := none }) (v := .int .i64 0) rfl (by kernel_rfl) (by kernel_rfl) (by kernel_rfl) (fun _ _ _ h => h) (Or.inl ⟨by rfl, fun w hSw => by go_simp⟩) (by assumption) ?_
            try simp only [Act.put, List.setIfInBounds_toArray, List.set_cons_zero, List.set_cons_succ]
            refine wpAnyH_take (i := 1) (oi := { dst := some 62, op := Op.binOp BinOp.eql 41 (Operand.tmp 61) (Operand.const (Value.int IntKind.i64 0)) 41, type := 4, pos := "law.go:170", after := #[{ on := 0, ground := Ground.data }], guard := none }) (v := .bool true) rfl (by kernel_rfl) (by kernel_rfl) (by kernel_rfl) (fun _ _ _ h => h) (Or.inl ⟨by rfl, fun w hSw => by go_simp⟩) (by assumption) ?_
            try simp only [Act.put, List.setIfInBounds_toArray, List.set_cons_zero, List.set_cons_succ]
            refine wpAnyH_take (i := 2) (oi := { dst := some 63, op := Op.move (Operand.tmp 62), type := 4, pos := "law.go:170", after := #[{ on := 1, ground := Ground.data }], guard := none }) (v := .bool true) rfl (by kernel_rfl) (by kernel_rfl) (by kernel_rfl) (fun _ _ _ h => h) (Or.inl ⟨by rfl, fun w hSw => by go_simp⟩) (by assumption) ?_
            try simp only [Act.put, List.setIfInBounds_toArray, List.set_cons_zero, List.set_cons_succ]
            refine wpAnyH_take (i := 3) (oi := { dst := some 64, op := Op.move (Operand.tmp 15), type := 3, pos := "law.go:170", after := #[{ on := 2, ground := Ground.guard }], guard := some (2, true) }) (v := .int .i64 (u : Int)) rfl (by kernel_rfl) (by kernel_rfl) (by kernel_rfl) (fun _ _ _ h => h) (Or.inl ⟨by rfl, fun w hSw => by go_simp⟩) (by assumption) ?_
            try simp only [Act.put, List.setIfInBounds_toArray, List.set_cons_zero, List.set_cons_succ]
            refine wpAnyH_take (i := 4) (oi := { dst := some 65, op := Op.binOp BinOp.eql 3 (Operand.tmp 64) (Operand.const (Value.int IntKind.i64 0)) 3, type := 4, pos := "law.go:170", after := #[{ on := 3, ground := Ground.data }, { on := 2, ground := Ground.guard }], guard := some (2, true) }) (v := .bool false) rfl (by kernel_rfl) (by kernel_rfl) (by kernel_rfl) (fun _ _ _ h => h) (Or.inl ⟨by rfl, fun w hSw => by have := HUr.out; go_simp⟩) (by assumption) ?_
            try simp only [Act.put, List.setIfInBounds_toArray, List.set_cons_zero, List.set_cons_succ]
            refine wpAnyH_take (i := 5) (oi := { dst := some 66, op := Op.pick (Operand.tmp 63) (Operand.tmp 65) (Operand.const (Value.bool false)), type := 4, pos := "law.go:170", after := #[{ on := 2, ground := Ground.data }, { on := 4, ground := Ground.data }], guard := none }) (v := .bool false) rfl (by kernel_rfl) (by kernel_rfl) (by kernel_rfl) (fun _ _ _ h => h) (Or.inl ⟨by rfl, fun w hSw => by go_simp⟩) (by assumption) ?_
            try simp only [Act.put, List.setIfInBounds_toArray, List.set_cons_zero, List.set_cons_succ]
            refine wpAnyH_take (i := 6) (oi := { dst := some 67, op := Op.move (Operand.tmp 66), type := 4, pos := "law.go:170", after := #[{ on := 5, ground := Ground.data }, { on := 2, ground := Ground.chain }], guard := none }) (v := .bool false) rfl (by kernel_rfl) (by kernel_rfl) (by kernel_rfl) (fun _ _ _ h => h) (Or.inl ⟨by rfl, fun w hSw => by go_simp⟩) (by assumption) ?_
            try simp only [Act.put, List.setIfInBounds_toArray, List.set_cons_zero, List.set_cons_succ]
            refine wpAnyH_take (i := 7) (oi := { dst := some 68, op := Op.load 34 (Operand.tmp 14), type := 34, pos := "law.go:170", after := #[{ on := 6, ground := Ground.guard }], guard := some (6, true) }) (v := undef) rfl (by kernel_rfl) (by kernel_rfl) (by kernel_rfl) (fun _ _ _ h => h) (Or.inr ⟨by rfl, rfl⟩) (by assumption) ?_
            try simp only [Act.put, List.setIfInBounds_toArray, List.set_cons_zero, List.set_cons_succ]
            refine wpAnyH_take (i := 8) (oi := { dst := some 69, op := Op.call { callee := Callee.value (Operand.func 9), args := #[Operand.tmp 68], argTypes := #[34] }, type := 30, pos := "law.go:170", after := #[{ on := 7, ground := Ground.data }, { on := 6, ground := Ground.chain }, { on := 6, ground := Ground.guard }], guard := some (6, true) }) (v := undef) rfl (by kernel_rfl) (by kernel_rfl) (by kernel_rfl) (fun _ _ _ h => h) (Or.inr ⟨by rfl, rfl⟩) (by assumption) ?_
            try simp only [Act.put, List.setIfInBounds_toArray, List.set_cons_zero, List.set_cons_succ]
            refine wpAnyH_take (i := 9) (oi := { dst := some 70, op := Op.convert 30 9 (Operand.tmp 69), type := 9, pos := "law.go:170", after := #[{ on := 8, ground := Ground.data }, { on := 6, ground := Ground.guard }], guard := some (6, true) }) (v := undef) rfl (by kernel_rfl) (by kernel_rfl) (by kernel_rfl) (fun _ _ _ h => h) (Or.inr ⟨by rfl, rfl⟩) (by assumption) ?_
            try simp only [Act.put, List.setIfInBounds_toArray, List.set_cons_zero, List.set_cons_succ]
            refine wpAnyH_take (i := 10) (oi := { dst := some 71, op := Op.move (Operand.tmp 13), type := 30, pos := "law.go:170", after := #[{ on := 6, ground := Ground.guard }], guard := some (6, true) }) (v := undef) rfl (by kernel_rfl) (by kernel_rfl) (by kernel_rfl) (fun _ _ _ h => h) (Or.inr ⟨by rfl, rfl⟩) (by assumption) ?_
            try simp only [Act.put, List.setIfInBounds_toArray, List.set_cons_zero, List.set_cons_succ]
            refine wpAnyH_take (i := 11) (oi := { dst := some 72, op := Op.call { callee := Callee.value (Operand.func 14), args := #[Operand.tmp 71], argTypes := #[30] }, type := 30, pos := "law.go:170", after := #[{ on := 10, ground := Ground.data }, { on := 8, ground := Ground.chain }, { on := 6, ground := Ground.guard }], guard := some (6, true) }) (v := undef) rfl (by kernel_rfl) (by kernel_rfl) (by kernel_rfl) (fun _ _ _ h => h) (Or.inr ⟨by rfl, rfl⟩) (by assumption) ?_
            try simp only [Act.put, List.setIfInBounds_toArray, List.set_cons_zero, List.set_cons_succ]
            refine wpAnyH_take (i := 12) (oi := { dst := some 73, op := Op.convert 30 9 (Operand.tmp 72), type := 9, pos := "law.go:170", after := #[{ on := 11, ground := Ground.data }, { on := 6, ground := Ground.guard }], guard := some (6, true) }) (v := undef) rfl (by kernel_rfl) (by kernel_rfl) (by kernel_rfl) (fun _ _ _ h => h) (Or.inr ⟨by rfl, rfl⟩) (by assumption) ?_
            try simp only [Act.put, List.setIfInBounds_toArray, List.set_cons_zero, List.set_cons_succ]
            refine wpAnyH_take (i := 13) (oi := { dst := some 74, op := Op.binOp BinOp.neq 9 (Operand.tmp 70) (Operand.tmp 73) 9, type := 4, pos := "law.go:170", after := #[{ on := 9, ground := Ground.data }, { on := 12, ground := Ground.data }, { on := 6, ground := Ground.guard }], guard := some (6, true) }) (v := undef) rfl (by kernel_rfl) (by kernel_rfl) (by kernel_rfl) (fun _ _ _ h => h) (Or.inr ⟨by rfl, rfl⟩) (by assumption) ?_
            try simp only [Act.put, List.setIfInBounds_toArray, List.set_cons_zero, List.set_cons_succ]
            refine wpAnyH_take (i := 14) (oi := { dst := some 75, op := Op.pick (Operand.tmp 67) (Operand.tmp 74) (Operand.const (Value.bool false)), type := 4, pos := "law.go:170", after := #[{ on := 6, ground := Ground.data }, { on := 13, ground := Ground.data }], guard := none }) (v := .bool false) rfl (by kernel_rfl) (by kernel_rfl) (by kernel_rfl) (fun _ _ _ h => h) (Or.inl ⟨by rfl, fun w hSw => by go_simp⟩) (by assumption) ?_
            try simp only [Act.put, List.setIfInBounds_toArray, List.set_cons_zero, List.set_cons_succ]
            have HE := Lib.hid hHeld
            clear hHeld
            refine wpAnyH_done (by kernel_rfl) ?_ _
            try unfold NoPanic
            obtain ⟨⟨q0, q1⟩, -, -⟩ := row2b (HRt.out _ HE.out)
            go_wp2
            go_roundw
            case rel => exact ⟨j + 1, by omega, by go_num, HWt.out.trans (HE.out.mono HWt.out.size)⟩
            case measure => simp [intOf]; omega
        · have hdu := HD.out.2.2.1 her
          have hn0 : n = 0 := by rw [HD.out.2.2.2.2, hdu.2.1]; rfl
          obtain ⟨hf0, -, hu0⟩ := hdu
          subst hf0 hu0 hn0
          have heb : ((er : Int) == 0) = false := by simp; omega
          have hen : ((er : Int) != 0) = true := by simp; omega
          have HEr := Lib.hid heb
          clear HD
          refine wp_region_noPanic ?_
          refine wp_region_held_drew (S := fun W : World => Below wt.heap.size wt W) (by kernel_rfl) ((Below.refl _ _).drew) (fun hHeld => ?_)
          generalize wt.drew = wd at *
          refine wpAnyH_take (i := 0) (oi := { dst := some 61, op := Op.move (Operand.tmp 16), type := 41, pos := "law.go:170", after := #[], guard := none }) (v := .int .i64 (er : Int)) rfl (by kernel_rfl) (by kernel_rfl) (by kernel_rfl) (fun _ _ _ h => h) (Or.inl ⟨by rfl, fun w hSw => by go_simp⟩) (by assumption) ?_
          try simp only [Act.put, List.setIfInBounds_toArray, List.set_cons_zero, List.set_cons_succ]
          refine wpAnyH_take (i := 1) (oi := { dst := some 62, op := Op.binOp BinOp.eql 41 (Operand.tmp 61) (Operand.const (Value.int IntKind.i64 0)) 41, type := 4, pos := "law.go:170", after := #[{ on := 0, ground := Ground.data }], guard := none }) (v := .bool false) rfl (by kernel_rfl) (by kernel_rfl) (by kernel_rfl) (fun _ _ _ h => h) (Or.inl ⟨by rfl, fun w hSw => by have := HEr.out; go_simp⟩) (by assumption) ?_
          try simp only [Act.put, List.setIfInBounds_toArray, List.set_cons_zero, List.set_cons_succ]
          refine wpAnyH_take (i := 2) (oi := { dst := some 63, op := Op.move (Operand.tmp 62), type := 4, pos := "law.go:170", after := #[{ on := 1, ground := Ground.data }], guard := none }) (v := .bool false) rfl (by kernel_rfl) (by kernel_rfl) (by kernel_rfl) (fun _ _ _ h => h) (Or.inl ⟨by rfl, fun w hSw => by go_simp⟩) (by assumption) ?_
          try simp only [Act.put, List.setIfInBounds_toArray, List.set_cons_zero, List.set_cons_succ]
          refine wpAnyH_take (i := 3) (oi := { dst := some 64, op := Op.move (Operand.tmp 15), type := 3, pos := "law.go:170", after := #[{ on := 2, ground := Ground.guard }], guard := some (2, true) }) (v := undef) rfl (by kernel_rfl) (by kernel_rfl) (by kernel_rfl) (fun _ _ _ h => h) (Or.inr ⟨by rfl, rfl⟩) (by assumption) ?_
          try simp only [Act.put, List.setIfInBounds_toArray, List.set_cons_zero, List.set_cons_succ]
          refine wpAnyH_take (i := 4) (oi := { dst := some 65, op := Op.binOp BinOp.eql 3 (Operand.tmp 64) (Operand.const (Value.int IntKind.i64 0)) 3, type := 4, pos := "law.go:170", after := #[{ on := 3, ground := Ground.data }, { on := 2, ground := Ground.guard }], guard := some (2, true) }) (v := undef) rfl (by kernel_rfl) (by kernel_rfl) (by kernel_rfl) (fun _ _ _ h => h) (Or.inr ⟨by rfl, rfl⟩) (by assumption) ?_
          try simp only [Act.put, List.setIfInBounds_toArray, List.set_cons_zero, List.set_cons_succ]
          refine wpAnyH_take (i := 5) (oi := { dst := some 66, op := Op.pick (Operand.tmp 63) (Operand.tmp 65) (Operand.const (Value.bool false)), type := 4, pos := "law.go:170", after := #[{ on := 2, ground := Ground.data }, { on := 4, ground := Ground.data }], guard := none }) (v := .bool false) rfl (by kernel_rfl) (by kernel_rfl) (by kernel_rfl) (fun _ _ _ h => h) (Or.inl ⟨by rfl, fun w hSw => by go_simp⟩) (by assumption) ?_
          try simp only [Act.put, List.setIfInBounds_toArray, List.set_cons_zero, List.set_cons_succ]
          refine wpAnyH_take (i := 6) (oi := { dst := some 67, op := Op.move (Operand.tmp 66), type := 4, pos := "law.go:170", after := #[{ on := 5, ground := Ground.data }, { on := 2, ground := Ground.chain }], guard := none }) (v := .bool false) rfl (by kernel_rfl) (by kernel_rfl) (by kernel_rfl) (fun _ _ _ h => h) (Or.inl ⟨by rfl, fun w hSw => by go_simp⟩) (by assumption) ?_
          try simp only [Act.put, List.setIfInBounds_toArray, List.set_cons_zero, List.set_cons_succ]
          refine wpAnyH_take (i := 7) (oi := { dst := some 68, op := Op.load 34 (Operand.tmp 14), type := 34, pos := "law.go:170", after := #[{ on := 6, ground := Ground.guard }], guard := some (6, true) }) (v := undef) rfl (by kernel_rfl) (by kernel_rfl) (by kernel_rfl) (fun _ _ _ h => h) (Or.inr ⟨by rfl, rfl⟩) (by assumption) ?_
          try simp only [Act.put, List.setIfInBounds_toArray, List.set_cons_zero, List.set_cons_succ]
          refine wpAnyH_take (i := 8) (oi := { dst := some 69, op := Op.call { callee := Callee.value (Operand.func 9), args := #[Operand.tmp 68], argTypes := #[34] }, type := 30, pos := "law.go:170", after := #[{ on := 7, ground := Ground.data }, { on := 6, ground := Ground.chain }, { on := 6, ground := Ground.guard }], guard := some (6, true) }) (v := undef) rfl (by kernel_rfl) (by kernel_rfl) (by kernel_rfl) (fun _ _ _ h => h) (Or.inr ⟨by rfl, rfl⟩) (by assumption) ?_
          try simp only [Act.put, List.setIfInBounds_toArray, List.set_cons_zero, List.set_cons_succ]
          refine wpAnyH_take (i := 9) (oi := { dst := some 70, op := Op.convert 30 9 (Operand.tmp 69), type := 9, pos := "law.go:170", after := #[{ on := 8, ground := Ground.data }, { on := 6, ground := Ground.guard }], guard := some (6, true) }) (v := undef) rfl (by kernel_rfl) (by kernel_rfl) (by kernel_rfl) (fun _ _ _ h => h) (Or.inr ⟨by rfl, rfl⟩) (by assumption) ?_
          try simp only [Act.put, List.setIfInBounds_toArray, List.set_cons_zero, List.set_cons_succ]
          refine wpAnyH_take (i := 10) (oi := { dst := some 71, op := Op.move (Operand.tmp 13), type := 30, pos := "law.go:170", after := #[{ on := 6, ground := Ground.guard }], guard := some (6, true) }) (v := undef) rfl (by kernel_rfl) (by kernel_rfl) (by kernel_rfl) (fun _ _ _ h => h) (Or.inr ⟨by rfl, rfl⟩) (by assumption) ?_
          try simp only [Act.put, List.setIfInBounds_toArray, List.set_cons_zero, List.set_cons_succ]
          refine wpAnyH_take (i := 11) (oi := { dst := some 72, op := Op.call { callee := Callee.value (Operand.func 14), args := #[Operand.tmp 71], argTypes := #[30] }, type := 30, pos := "law.go:170", after := #[{ on := 10, ground := Ground.data }, { on := 8, ground := Ground.chain }, { on := 6, ground := Ground.guard }], guard := some (6, true) }) (v := undef) rfl (by kernel_rfl) (by kernel_rfl) (by kernel_rfl) (fun _ _ _ h => h) (Or.inr ⟨by rfl, rfl⟩) (by assumption) ?_
          try simp only [Act.put, List.setIfInBounds_toArray, List.set_cons_zero, List.set_cons_succ]
          refine wpAnyH_take (i := 12) (oi := { dst := some 73, op := Op.convert 30 9 (Operand.tmp 72), type := 9, pos := "law.go:170", after := #[{ on := 11, ground := Ground.data }, { on := 6, ground := Ground.guard }], guard := some (6, true) }) (v := undef) rfl (by kernel_rfl) (by kernel_rfl) (by kernel_rfl) (fun _ _ _ h => h) (Or.inr ⟨by rfl, rfl⟩) (by assumption) ?_
          try simp only [Act.put, List.setIfInBounds_toArray, List.set_cons_zero, List.set_cons_succ]
          refine wpAnyH_take (i := 13) (oi := { dst := some 74, op := Op.binOp BinOp.neq 9 (Operand.tmp 70) (Operand.tmp 73) 9, type := 4, pos := "law.go:170", after := #[{ on := 9, ground := Ground.data }, { on := 12, ground := Ground.data }, { on := 6, ground := Ground.guard }], guard := some (6, true) }) (v := undef) rfl (by kernel_rfl) (by kernel_rfl) (by kernel_rfl) (fun _ _ _ h => h) (Or.inr ⟨by rfl, rfl⟩) (by assumption) ?_
          try simp only [Act.put, List.setIfInBounds_toArray, List.set_cons_zero, List.set_cons_succ]
          refine wpAnyH_take (i := 14) (oi := { dst := some 75, op := Op.pick (Operand.tmp 67) (Operand.tmp 74) (Operand.const (Value.bool false)), type := 4, pos := "law.go:170", after := #[{ on := 6, ground := Ground.data }, { on := 13, ground := Ground.data }], guard := none }) (v := .bool false) rfl (by kernel_rfl) (by kernel_rfl) (by kernel_rfl) (fun _ _ _ h => h) (Or.inl ⟨by rfl, fun w hSw => by go_simp⟩) (by assumption) ?_
          try simp only [Act.put, List.setIfInBounds_toArray, List.set_cons_zero, List.set_cons_succ]
          have HE := Lib.hid hHeld
          clear hHeld
          refine wpAnyH_done (by kernel_rfl) ?_ _
          try unfold NoPanic
          obtain ⟨⟨q0, q1⟩, -, -⟩ := row2b (HRt.out _ HE.out)
          go_wp2
          go_roundw
          case rel => exact ⟨j + 1, by omega, by go_num, HWt.out.trans (HE.out.mono HWt.out.size)⟩
          case measure => simp [intOf]; omega
      · go_wp2
        go_ret
        exact ⟨rfl, HBz.out.trans (HW.out.mono HBz.out.size)⟩

set_option maxRecDepth 100000 in
theorem lifted (os : Os) (started : os.Started) (H : Type) (enc : TypeId × Value → H) :
    ReturnsInHanded {} Try.checked os 6 .any (Rows.messageReadsSpec.pre6 enc Try.prog Try.f6 Rows.messageReadsRow.domain false) (Rows.messageReadsSpec.post enc Try.prog Try.f6 false true false false) := by
  refine returnsInHanded_of_change (C := Try.checked) own started (by kernel_rfl) Try.func6
    (ChangeSpec.witness6 (enc := enc) (C := Try.checked) false ⟨#[], #[.slice none 0 0, .int .u8 0, .agg #[.int .u8 0, .int .u64 0, .int .i64 0, .int .u32 0, .int .u8 0, .int .u16 0, .int .u16 0], .int .u8 0, .int .u8 0], []⟩ 8 (by kernel_rfl) (by kernel_rfl) (by kernel_rfl) (by kernel_rfl)) ?_
  intro W base args ds gs before hval0 hW hcnd _
  have hval : ∀ (j : Nat) t v, Try.f6.params[j]? = some t → args[j]? = some v → Value.okWide Try.prog W .any base t v := hval0
  have hW' := hW
  obtain ⟨p, q, hA0, hV, rfl, hfz, hnd⟩ := hW
  have hA : DataW.TrodAll enc Try.prog W 0 (fun _ => true) true Try.f6.params.toList args.toList ds p := hA0
  rw [Try.params6] at hA hval
  obtain ⟨v0, vs0, d0, ds0, p0, q0, hargs, rfl, rfl, h0, r0⟩ := trodAll_cons hA
  obtain ⟨v1, vs1, d1, ds1, p1, q1, rfl, rfl, rfl, h1, r1⟩ := trodAll_cons r0
  obtain ⟨v2, vs2, d2, ds2, p2, q2, rfl, rfl, rfl, h2, r2⟩ := trodAll_cons r1
  obtain ⟨v3, vs3, d3, ds3, p3, q3, rfl, rfl, rfl, h3, r3⟩ := trodAll_cons r2
  obtain ⟨v4, vs4, d4, ds4, p4, q4, rfl, rfl, rfl, h4, r4⟩ := trodAll_cons r3
  obtain ⟨rfl, rfl, rfl⟩ := trodAll_nil r4
  obtain rfl : args = #[v0, v1, v2, v3, v4] := by cases args; simp_all
  obtain ⟨rfl, rfl⟩ := trodVars_none hV
  obtain ⟨a0, len0, cap0, rfl⟩ := okWide_slice Try.underlying30 (hval 0 30 v0 rfl rfl)
  have k0 := h0
  have lt0 : ∀ x ∈ p0, x.block < W.heap.size := by obtain ⟨m, hm⟩ := k0; exact DataW.trod_lt m _ _ _ hm
  obtain ⟨z0, w0⟩ : ∃ zs, IsRow .u8 W a0 len0 cap0 zs := by
    obtain ⟨fuel, hf⟩ := h0
    rcases open_ints Try.underlying30 Try.underlying5 (by kernel_rfl) hf with ⟨hcs, _⟩ | ⟨x, l, c, zs, hcs, _, hl, hm, hz, _, hcell, hwz⟩
    · simp [Value.cells] at hcs
      obtain ⟨rfl, rfl, rfl⟩ := hcs
      exact ⟨[], .inl ⟨rfl, rfl, rfl, rfl⟩⟩
    · simp [Value.cells] at hcs
      obtain ⟨rfl, rfl, rfl⟩ := hcs
      exact ⟨zs, .inr ⟨_, rfl, hl, hm, by simpa using hz, hcell, hwz⟩⟩
  obtain ⟨a1, rfl, rfl, rfl, w1⟩ := open_int Try.underlying5 (hval 1 5 v1 rfl rfl) h1
  have k2 := h2
  have lt2 : ∀ x ∈ p2, x.block < W.heap.size := by obtain ⟨m, hm⟩ := k2; exact DataW.trod_lt m _ _ _ hm
  obtain ⟨x2, w2, rfl⟩ := part_val (hval 2 28 v2 rfl rfl) h2
  obtain ⟨a3, rfl, rfl, rfl, w3⟩ := open_int Try.underlying5 (hval 3 5 v3 rfl rfl) h3
  obtain ⟨a4, rfl, rfl, rfl, w4⟩ := open_int Try.underlying5 (hval 4 5 v4 rfl rfl) h4
  clear hA0 hval0
  refine (walk a0 len0 cap0 z0 a1 x2 a3 a4 W w0 w1 w2 w3 w4).mono fun e W' ⟨he, bel⟩ => ?_
  subst he
  exact ⟨_, rfl, _, _, _, [], _, [], hW', trodAll_mk1 (shut_bool Try.underlying4 _), (trodAll_cons_mk (Below.trod laidOut (by kernel_rfl) (of_decide_eq_true (by kernel_rfl)) k0 bel lt0) (trodAll_cons_mk (shut_int Try.underlying5 w1) (trodAll_cons_mk (Below.trod laidOut (by kernel_rfl) (of_decide_eq_true (by kernel_rfl)) k2 bel lt2) (trodAll_cons_mk (shut_int Try.underlying5 w3) (trodAll_cons_mk (shut_int Try.underlying5 w4) trodAll_mk0))))), rfl, bel.frame _, fun h => by cases h⟩

theorem over : Rows.messageReadsRow.holds Try.pinned (OpenSpec.ofChange Rows.messageReadsSpec) :=
  OpenClaim.holds_of_wide 6 Try.f6 rfl rfl rfl rfl rfl rfl rfl ⟨rfl, rfl, rfl, rfl, rfl⟩ rfl rfl rfl rfl rfl (by kernel_rfl) Try.func6 (by kernel_rfl)
    (of_decide_eq_true (by kernel_rfl)) (by unfold Func.isWrapper; first | (rw [if_pos (by decide +kernel)]; kernel_rfl) | (rw [if_neg (by decide +kernel)]; exact ⟨rfl, rfl⟩))
    (fun os started H enc _ => lifted os started H enc)

theorem proved : Rows.MessageReadsSaid := over
#print axioms proved
end Go.Proofs.Ytecfblkagbdjlaa.messageReads
