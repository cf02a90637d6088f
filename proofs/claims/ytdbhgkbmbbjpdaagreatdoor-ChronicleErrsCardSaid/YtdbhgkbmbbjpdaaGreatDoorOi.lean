/- What ChronicleErrs comes to. -/
import Derived.Test.YtdbhgkbmbbjpdaaGreatDoorOh
namespace Go.Proofs.YtdbhgkbmbbjpdaaGreatDoor.Chr
open Go.ChangeShapes Go.WideShapes Go.ChangeAt Go.RowKit
open Shf (S str)
open Coin (Rd Row Own sz coin got Pur takeV endV CoinSaid)
open Frm (pack err size kind cnt body noItem itemV OneSaid)
set_option maxRecDepth 8000

set_option linter.unusedVariables false
open Shf (Tag Ext Rep M RdN get Fine)
theorem row_pat {w : World} {T : Nat → Tag} {g : Nat} {l : S} (h : Row w g l) (hT : T g = .none) (n : Nat) (hn : n = l.length) : PAt w T (some ⟨g, 0, none⟩) n l :=
  ⟨fun h => (by cases h), by omega, fun _ => ⟨g, 0, _, rfl, h, hT, fun j hj => by
    rw [Nat.zero_add, List.getElem?_toArray, List.getElem?_map, List.getElem?_eq_getElem hj]
    rfl⟩⟩
theorem more_big {k : UInt8} {bs : S} {c' : CD} (h : More ⟨100, 1, 0, 0, [], [], false⟩ k bs c') (hb : bs.length ≤ 1048576) : c'.hU = 0 ∧ c'.next = 2 ∧ c'.Small := by
  rcases h with ⟨l, d, e, _⟩ | ⟨_, rfl⟩
  · have e : ([] : List VolD) = l ++ [d] := e
    simp at e
  · have hp : (pack k bs).length ≤ 1048600 := by rw [Frm.length_pack]; have := Coin.sz_le bs.length; omega
    have ht := titleB_len 1 1
    refine ⟨rfl, rfl, by show 1 < 1000000000; decide, by show 0 < 1000000000; decide, by show 1 ≤ 1000000; decide, fun d hd => ?_⟩
    have hd : d ∈ [({newV ⟨100, 1, 0, 0, [], [], false⟩ with its := [⟨k, bs, (titleB 1 1).length, (titleB 1 1).length + (pack k bs).length⟩], size := (titleB 1 1).length + (pack k bs).length} : VolD)] := hd
    rw [List.mem_singleton.1 hd]
    exact ⟨by show 1 < 1000000000; decide, by show 1 < 1000000000; decide, by show 1 ≤ 1000000; decide, by show (titleB 1 1).length + (pack k bs).length ≤ 1000000000; omega⟩
theorem bad_index {room : Int} {b : Nat} {l : S} (hr : (1000 : Int) ≤ room) (hl : l.length ≤ 200) (G : Shf.Good (((Shf.M.new room).create idxN b).append idxN l).now) : (((Shf.M.new room).create idxN b).append idxN l).readE idxN = 0 ∧ (((Shf.M.new room).create idxN b).append idxN l).readP idxN = l := by
  have G0 : Shf.Good (Shf.M.new room).now := Shf.Good.nil
  obtain ⟨_, hC⟩ := create_on (new_on room) G0 rfl idxN (by decide) rfl
  rw [now_append] at G
  have n1 := (hC b).2 G
  have h1 : ((Shf.M.new room).create idxN b).named = 0 := n1.named
  have h2 : ((Shf.M.new room).create idxN b).gone = 0 := n1.gone
  have h3 : ((Shf.M.new room).create idxN b).room = room := n1.room
  have n2 := (n1.app l (by rw [h1, h2, h3]; omega)).2
  rw [List.nil_append] at n2
  exact ⟨by rw [n2.on.readE, n2.is], by rw [n2.on.readP, n2.is]; rfl⟩
set_option maxHeartbeats 8000000 in
theorem errs_any (w : World) (A : Option Addr) (m cp : Nat) (l : S) (hm : m = l.length) (hr : Rd w w.heap.size A l) (hA : A = none → cp = 0) (n : Int) :
    Calls Tryz.prog 7 #[.slice A m cp, .int .u64 n] w fun e w' => e = .returned (.bool true) ∧ Below w.heap.size w w' := by
  by_cases h1 : 100 < m
  · have h1' : (100 : Int) < m := by omega
    clear hr hA hm h1
    go_enter Tryz.func7, Tryz.ntmps7
    go_upto_region 2 with (go_at_call 9; (with_reducible refine (awake_any _).mono ?_); rintro e w1 ⟨rfl, b1⟩; have HB1 := Lib.hid b1; clear b1)
    go_wp2_with (go_at_call 9; (with_reducible refine (awake_any _).mono ?_); rintro e w2 ⟨rfl, b2⟩; have HB2 := Lib.hid (HB1.out.trans (b2.mono HB1.out.size)); clear b2)
    go_ret
    exact ⟨rfl, HB2.out⟩
  · have h1' : ¬ (100 : Int) < m := by omega
    have HA := Lib.hid (And.intro hr (And.intro hA (And.intro hm (show m ≤ 100 by omega))))
    clear hr hA hm h1
    go_enter Tryz.func7, Tryz.ntmps7
    go_upto_region 3 with (go_at_call 9; (with_reducible refine (awake_any _).mono ?_); rintro e wa ⟨rfl, b1⟩; have HBa := Lib.hid b1; clear b1)
    have hnew : ∀ (y y' : World) (T : Nat → Tag), Below w.heap.size w y → Below y.heap.size y y' → (∀ k, T k ≠ .none → y.heap.size ≤ k) → Kq w.heap.size w (fun _ => .none) y' T := fun y y' T h1 h2 h3 => (kq_kp (kp_below h1 (fun _ => .none))).trans (kq_new h2 h3)
    have HNEW := Lib.hid hnew
    clear hnew
    have c10 := Shf.new_rep wa 4194304 (by decide)
    go_upto_region 4 with (go_at_call 10; (with_reducible refine c10.mono ?_); rintro e w1 ⟨q1, T1, rfl, R1, B1, hT1⟩; have H1 := Lib.hid (And.intro R1 (HNEW.out wa w1 T1 HBa.out B1 hT1)); clear R1 B1 hT1 c10)
    have c34 := Shf.create_rep w1 T1 q1 (Shf.M.new 4194304) idxN H1.out.1 (by decide) (by decide)
    rw [idx_str] at c34
    go_upto_region 5 with (go_at_call 34; (with_reducible refine c34.mono ?_); rintro e w2 ⟨rfl, T2, b, R2, X2, hb2⟩; have H2 := Lib.hid (And.intro R2 (H1.out.2.trans (kq_kp (kp_ext X2)))); clear R2 X2 hb2 c34)
    have B2 := below_kq H2.out.2
    have s2 := B2.size
    have B3 : Below w2.heap.size w2 (w2.alloc (.cells #[.int .u8 255] 5)) := (Below.refl _ _).alloc (Nat.le_refl _) _
    have O3 : Own (w2.alloc (.cells #[.int .u8 255] 5)) w2.heap.size (.slice (some ⟨w2.heap.size, 0, none⟩) 1 1) [255] := Coin.Own.lit w2 w2.heap.size [255] (Nat.le_refl _) (by simp)
    have Bw3 := B2.trans (B3.mono s2)
    have r3 := HA.out.1.below Bw3 (Nat.le_refl _)
    have hl3 : ([255] : S).length + l.length ≤ 1300000 := by have h1 := HA.out.2.2.1; have h2 := HA.out.2.2.2; simp only [List.length_cons, List.length_nil]; omega
    have c35 : ∀ w5 A5 c5, Own w5 w2.heap.size (.slice A5 ([255] ++ l).length c5) ([255] ++ l) → (A5 = none → c5 = 0) → Below w2.heap.size w2 w5 → Calls Tryz.prog 35 #[.pointer (some ⟨q1, 0, none⟩), .string ⟨#[105, 110, 100, 101, 120]⟩, .slice A5 ([255] ++ l).length c5] w5 fun e w' => ∃ e9 : Nat, e = .returned (.int .i64 (e9 : Int)) ∧ ∃ T', Rep w' T' q1 (((Shf.M.new 4194304).create idxN b).append idxN ([255] ++ l)) ∧ Kq w.heap.size w (fun _ => .none) w' T' := fun w5 A5 c5 O5 hA5 B5 => by
      have sm := sm_create (Shf.M.new 4194304) idxN b
      have sd : (Shf.M.new 4194304).done = 0 := rfl
      have sr : (Shf.M.new 4194304).room = 4194304 := rfl
      have e := Shf.append_rep w5 T2 q1 _ idxN ([255] ++ l) A5 c5 (H2.out.1.below B5) (by omega) (by decide) (rdn_own O5 (fun b hb => rep_old H2.out.1 hb)) hA5 (by rw [List.length_append]; omega) (by rw [sm.2, sr]; decide)
      rw [idx_str] at e
      refine e.mono ?_
      rintro e w' ⟨rfl, T', R', X'⟩
      exact ⟨_, rfl, T', R', (H2.out.2.trans (kq_kp (kp_below B5 T2))).trans (kq_kp (kp_ext X'))⟩
    have HC35 := Lib.hid c35
    clear c35
    go_upto_region 6 with (first
      | (at_builtin; go_loud (with_reducible refine Coin.app_any rfl (.tmp 37) (.tmp 38) rfl w2.heap.size (.slice (some ⟨w2.heap.size, 0, none⟩) 1 1) [255] l A m cp w.heap.size rfl rfl O3 r3 HA.out.2.2.1 HA.out.2.1 hl3 B3.size w.heap.size w Bw3 s2 ?_); intro v5 w5 O5 B5 G5; obtain ⟨A5, c5, rfl, -, -, hA5⟩ := O5.form; have c35 := HC35.out w5 A5 c5 O5 hA5 (Coin.below_grown B3 G5 (Nat.le_refl _)); obtain ⟨n5, hn5⟩ : ∃ x, x = ([255] ++ l).length := ⟨_, rfl⟩; rw [← hn5] at c35 ⊢; clear O5 B5 G5 hA5 hn5)
      | (go_at_call 35; (with_reducible refine c35.mono ?_); rintro e w6 ⟨e9, rfl, T6, R6, K6⟩; have H6 := Lib.hid (And.intro R6 K6); clear R6 K6 c35))
    clear B2 s2 B3 O3 Bw3 r3 hl3
    have c11 : Calls Tryz.prog 11 #[.pointer (some ⟨q1, 0, none⟩), .int .i64 100] w6 fun e w' => e = .returned (.tuple #[.pointer none, .int .i64 4]) ∧ Below w.heap.size w w' := by
      have bi := bad_index (room := 4194304) (b := b) (l := [255] ++ l) (by decide) (by have h1 := HA.out.2.2.1; have h2 := HA.out.2.2.2; rw [List.length_append]; simp only [List.length_cons, List.length_nil]; omega) H6.out.1.2.goodNow
      have e := open_bad w6 T6 q1 _ 100 H6.out.1 bi.1 (by rw [bi.2]; exact no255 l) (by rw [bi.2, List.length_append]; have h1 := HA.out.2.2.1; have h2 := HA.out.2.2.2; simp only [List.length_cons, List.length_nil]; omega)
      refine e.mono ?_
      rintro e w' ⟨rfl, B⟩
      have bk := below_kq H6.out.2
      exact ⟨rfl, bk.trans (B.mono bk.size)⟩
    go_upto_region 7 with (go_at_call 11; (with_reducible refine c11.mono ?_); rintro e w7 ⟨rfl, B7⟩; have HB7 := Lib.hid B7; clear B7 c11)
    have c10 := Shf.new_rep w7 4194304 (by decide)
    go_upto_region 8 with (go_at_call 10; (with_reducible refine c10.mono ?_); rintro e w8 ⟨q, T8, rfl, R8, B8, hT8⟩; have H8 := Lib.hid (And.intro R8 (HNEW.out w7 w8 T8 HB7.out B8 hT8)); clear R8 B8 hT8 c10)
    have c11 : Calls Tryz.prog 11 #[.pointer (some ⟨q, 0, none⟩), .int .i64 100] w8 _ := first_any (lo := w.heap.size) w8 T8 q (Shf.M.new 4194304) 100 H8.out.1 (new_on 4194304) rfl rfl rfl (by decide) (by decide) H8.out.2.size
    go_upto_region 9 with (go_at_call 11; (with_reducible refine c11.mono ?_); rintro e w9 ⟨p, m9, T9, rfl, g9, R9, C9, K9, hp9, r9, s9, d9, n9⟩; have H9 := Lib.hid (And.intro g9 (And.intro R9 (And.intro C9 (And.intro (H8.out.2.trans K9) (And.intro r9 (And.intro s9 (And.intro d9 n9))))))); clear g9 R9 C9 K9 hp9 r9 s9 d9 n9 c11)
    have cm7 : ∀ w : World, (Instr.makeSlice 30 (.int .i64 1048577) (.int .i64 1048577)).run Tryz.prog w = .ok (.slice (some ⟨w.heap.size, 0, none⟩) 1048577 1048577) (w.alloc (.cells (madeCells #[.int .u8 0] 1048577) 5)) := Coin.make_any 1048577 (by decide)
    have cm6 : ∀ w : World, (Instr.makeSlice 30 (.int .i64 1048576) (.int .i64 1048576)).run Tryz.prog w = .ok (.slice (some ⟨w.heap.size, 0, none⟩) 1048576 1048576) (w.alloc (.cells (madeCells #[.int .u8 0] 1048576) 5)) := Coin.make_any 1048576 (by decide)
    have cl : ∀ (y : World) (A : Option Addr), Calls Tryz.prog 21 #[.pointer (some ⟨p, 0, none⟩), .int .u8 107, .slice A 1048577 1048577] y _ := fun y A => append_long y p 107 A 1048577 1048577 (by decide)
    have B10 : Below w9.heap.size w9 (w9.alloc (.cells (madeCells #[.int .u8 0] 1048577) 5)) := (Below.refl _ _).alloc (Nat.le_refl _) _
    go_upto_region 10 with (go_at_call 21; (with_reducible refine (cl _ _).mono ?_); rintro e wl ⟨rfl, rfl⟩)
    generalize w9.alloc (.cells (madeCells #[.int .u8 0] 1048577) 5) = w10 at *
    have B11 : Below w10.heap.size w10 (w10.alloc (.cells (madeCells #[.int .u8 0] 1048576) 5)) := (Below.refl _ _).alloc (Nat.le_refl _) _
    have RW := Coin.Row.new w10 1048576
    obtain ⟨bs, hbs⟩ : ∃ x : S, x = List.replicate 1048576 0 := ⟨_, rfl⟩
    have hlen : bs.length = 1048576 := by rw [hbs]; exact List.length_replicate
    rw [← hbs] at RW
    have Bx := B10.trans (B11.mono B10.size)
    have PA := (row_pat (T := T9) RW (rep_old H9.out.2.1 B10.size) 1048576 hlen.symm).aat
    have hpk : (pack 107 bs).length ≤ 1048600 := by rw [Frm.length_pack]; have := Coin.sz_le bs.length; omega
    have s9 : m9.named + m9.gone ≤ 0 + 50 := H9.out.2.2.2.2.2.1
    have r9 : m9.room = 4194304 := H9.out.2.2.2.2.1
    have d9 : m9.done ≤ 0 + 5 := H9.out.2.2.2.2.2.2.1
    have c21 : Calls Tryz.prog 21 #[.pointer (some ⟨p, 0, none⟩), .int .u8 107, .slice (some ⟨w10.heap.size, 0, none⟩) 1048576 1048576] (w10.alloc (.cells (madeCells #[.int .u8 0] 1048576) 5)) _ := append_cg (lo := w.heap.size) _ T9 p q m9 ⟨100, 1, 0, 0, [], [], false⟩ (H9.out.2.1.below Bx) (H9.out.2.2.1.keep (kp_below Bx T9)) H9.out.1 (by decide) (by decide) ⟨by decide, by decide, by decide, fun d hd => (by cases hd)⟩ (by decide) (by omega) (nms_mono H9.out.2.2.2.2.2.2.2 (by decide)) 107 (some ⟨w10.heap.size, 0, none⟩) 1048576 1048576 bs hlen.symm PA (by omega) (by rw [r9]; omega)
    have HK := Lib.hid (And.intro (H9.out.2.2.2.1.trans (kq_kp (kp_below Bx T9))) hlen)
    clear RW PA Bx B10 hpk s9 r9 d9 hbs cl
    go_upto_region 11 with (go_at_call 21; (with_reducible refine c21.mono ?_); rintro e w11 ⟨m4, c4, T4, rfl, g4, mo4, R4, C4, K4, r4, s4, d4, n4⟩; have H4 := Lib.hid (And.intro mo4 (And.intro C4 (HK.out.1.trans K4))); clear g4 mo4 R4 C4 K4 r4 s4 d4 n4 c21; rw [show (((⟨100, 1, 0, 0, [], [], false⟩ : CD).next : Nat) : Int) = 1 from rfl])
    clear B11
    have B12 : Below w11.heap.size w11 (w11.alloc (.cells (madeCells #[.int .u8 0] 1048577) 5)) := (Below.refl _ _).alloc (Nat.le_refl _) _
    obtain ⟨b1, b2, b3⟩ := more_big H4.out.1 (by have := HK.out.2; omega)
    have c32 : Calls Tryz.prog 32 #[.pointer (some ⟨p, 0, none⟩), .int .u64 1, .slice (some ⟨w11.heap.size, 0, none⟩) 1048577 1048577] (w11.alloc (.cells (madeCells #[.int .u8 0] 1048577) 5)) _ := fold_long (lo := w.heap.size) _ T4 p q c4 (H4.out.2.1.keep (kp_below B12 T4)) b3 1 (by omega) (by omega) (some ⟨w11.heap.size, 0, none⟩) 1048577 1048577 (by decide)
    have HB12 := Lib.hid ((below_kq H4.out.2.2).trans (B12.mono (below_kq H4.out.2.2).size))
    clear b1 b2 b3 hlen B12
    go_upto_region 12 with (go_at_call 32; (with_reducible refine c32.mono ?_); rintro e w12 ⟨rfl, B⟩; have HB13 := Lib.hid (HB12.out.trans (B.mono HB12.out.size)); clear B c32)
    have n21 : ∀ y, Calls Tryz.prog 21 #[.pointer none, .int .u8 107, .slice A m cp] y fun e w' => e = .returned (.tuple #[.int .u64 0, .int .i64 2]) ∧ y = w' := fun y => append_nil y 107 A m cp
    have n11 : ∀ y, Calls Tryz.prog 11 #[.pointer none, .int .i64 100] y fun e w' => e = .returned (.tuple #[.pointer none, .int .i64 7]) ∧ y = w' := fun y => open_nil y 100
    go_upto_region 17 with (first
      | (go_at_call 21; (with_reducible refine (n21 _).mono ?_); rintro e wl ⟨rfl, rfl⟩)
      | (go_at_call 36; (with_reducible refine (base_nil _).mono ?_); rintro e wl ⟨rfl, rfl⟩)
      | (go_at_call 37; (with_reducible refine (recs_nil _).mono ?_); rintro e wl ⟨rfl, rfl⟩)
      | (go_at_call 11; (with_reducible refine (n11 _).mono ?_); rintro e wl ⟨rfl, rfl⟩))
    clear n21 n11 cm6 cm7
    go_wp2_with (first
      | (go_at_call 23; (with_reducible refine (sync_nil _).mono ?_); rintro e wl ⟨rfl, rfl⟩)
      | (go_at_call 32; (with_reducible refine (fold_nil _ _ _ _ _).mono ?_); rintro e wl ⟨rfl, rfl⟩)
      | (go_at_call 19; (with_reducible refine (nextn_nil _).mono ?_); rintro e wl ⟨rfl, rfl⟩)
      | (go_at_call 30; (with_reducible refine (bytes_nil _).mono ?_); rintro e wl ⟨rfl, rfl⟩)
      | (go_at_call 14; (with_reducible refine (full_nil _).mono ?_); rintro e wl ⟨rfl, rfl⟩)
      | (go_at_call 24; (with_reducible refine (vols_nil _).mono ?_); rintro e wl ⟨rfl, rfl⟩)
      | (go_at_call 20; (with_reducible refine (head_nil _).mono ?_); rintro e w14 ⟨rfl, B⟩; have HB14 := Lib.hid (HB13.out.trans (B.mono HB13.out.size)); clear B))
    go_ret
    exact ⟨rfl, HB14.out⟩
end Go.Proofs.YtdbhgkbmbbjpdaaGreatDoor.Chr
