/- Contract: takeOne. -/
import Derived.Test.YtecfblkagbdjlaaMh
namespace Go.Proofs.Ytecfblkagbdjlaa.Msg
open Go.ChangeShapes Go.WideShapes Go.ChangeAt Go.RowKit
open Coin (coin sz b8 Rd Row Own CoinOwn put_any sz_le length_coin takeV endV bytesV got got_lt Pur take_any BytesSaid bytes_any)
set_option maxRecDepth 8000

theorem one_any (w : World) (q : Nat) (b : UInt8) (r : List UInt8) (h : Pur w q (b :: r) 0) (hl : r.length ≤ 90000) :
    Calls Try.prog 41 #[.pointer (some ⟨q, 0, none⟩)] w (T1Said w q (t1 b r)) := by
  have hqw := h.lt
  have c1 := bytes_any w q (b :: r) 0 1 h (by decide)
  have e1 : bytesV (b :: r) 0 1 = ([b], r, 0) := by
    unfold bytesV
    rw [if_neg (by omega), if_neg (by simp; omega)]
    rfl
  rw [e1] at c1
  obtain ⟨m, hm⟩ : ∃ m, m = r.length := ⟨_, rfl⟩
  obtain ⟨n, l1, f1, e2, b2, k2, g2⟩ := tk_next r 0 r.length (by decide)
  have hby := by_facts l1 f1 n k2
  have e3 : t1 b r = if (bytesV l1 f1 n).2.2 = 0 then (b.toNat, (bytesV l1 f1 n).1, (bytesV l1 f1 n).2.1, 0) else (0, [], (bytesV l1 f1 n).2.1, (bytesV l1 f1 n).2.2) := by simp only [t1, e2]
  have c3 := fun W (hP : Pur W q l1 f1) => bytes_any W q l1 f1 (n : Int) hP (by omega)
  obtain ⟨bx, hbx⟩ : ∃ bx : Nat, bx = b.toNat := ⟨_, rfl⟩
  rw [← hbx] at e3
  have hb8 : b8 b = .int .u8 (bx : Int) := by rw [hbx]; rfl
  generalize bytesV l1 f1 (n : Int) = t at *
  obtain ⟨o, l2, f2⟩ := t
  simp only at hby e3 c3
  rw [← hm] at e2 b2 hl
  have cL := fun W (hP : Pur W q r 0) => Coin.left_any W q r 0 hP
  rw [← hm] at cL
  have c2 : TkC 38 #[.pointer (some ⟨q, 0, none⟩), .int .u64 (m : Int)] .u64 q r 0 n l1 f1 := tkc' e2 (by decide) (by omega)
  have cF := fun W (hP : Pur W q l2 f2) => Coin.fault_any W q l2 f2 hP
  have hw1 : IntKind.u64.wrap (m : Int) = m := by rw [wrap_u64]; omega
  have hw2 : IntKind.i64.wrap (n : Int) = n := by rw [IntKind.wrap_i64]; omega
  have HC := Lib.hid (And.intro c1 (And.intro cL (And.intro c2 (And.intro c3 (And.intro cF e3)))))
  generalize t1 b r = res at *
  have HB := Lib.hid hb8
  obtain ⟨no, hno⟩ : ∃ no, no = o.length := ⟨_, rfl⟩
  have HO := Lib.hid hno
  clear h c1 e1 hm e2 g2 hby e3 c3 cL c2 cF hbx hb8 hno
  by_cases hf : f2 = 0
  · subst hf
    have hres : res = (bx, o, l2, 0) := HC.out.2.2.2.2.2.trans (if_pos rfl)
    subst hres
    go_enter Try.func41, Try.ntmps41
    go_wp2_with (first
      | (go_at_call 48; (with_reducible refine HC.out.1.mono ?_); (rintro e w1 ⟨A1, cp1, rfl, R1, P1, G1⟩; obtain ⟨ad, rfl, hab, hac⟩ := R1 (by simp); have hac0 := hac 0 (by simp); have had := World.cell?_spot hac0; obtain ⟨ab, ao, asp⟩ := ad; obtain rfl : asp = none := (by simpa [Addr.add] using had); have HZ1 := Lib.hid (And.intro R1 (And.intro P1 G1)); clear R1 P1 G1 hac hac0 had hab))
      | (go_at_call 40; (with_reducible refine (HC.out.2.1 _ HZ1.out.2.1).mono ?_); (rintro e w2 ⟨rfl, ew2⟩; subst ew2))
      | (go_at_call 38; (with_reducible refine (HC.out.2.2.1 _ HZ1.out.2.1).mono ?_); (rintro e w3 ⟨rfl, P3, G3⟩; have HZ3 := Lib.hid (And.intro (rd_off HZ1.out.1 (Nat.le_refl _) HZ1.out.2.1 G3) (And.intro P3 (Coin.grown_trans HZ1.out.2.2 G3))); have hs3 := G3.size; clear P3 G3))
      | (go_at_call 48; (with_reducible refine (HC.out.2.2.2.1 _ HZ3.out.2.1).mono ?_); (rintro e w4 ⟨A4, cp4, rfl, R4, P4, G4⟩; rw [← HO.out]; have R41 := rd_off HZ3.out.1 hs3 HZ3.out.2.1 G4; obtain ⟨ad4, ea, hab, hac⟩ := R41 (by simp); (simp only [Option.some.injEq] at ea); subst ea; have hac0 : w4.cell? ⟨ab, ao, none⟩ = some (.int .u8 (bx : Int)) := (by have := hac 0 (by simp); rw [List.getElem_cons_zero, HB.out] at this; simpa [Addr.add] using this); have HZ4 := Lib.hid (And.intro R4 (And.intro P4 (Coin.grown_trans HZ3.out.2.2 G4))); clear R4 P4 G4 R41 hac hab))
      | (go_at_call 39; (with_reducible refine (HC.out.2.2.2.2.1 _ HZ4.out.2.1).mono ?_); (rintro e w5 ⟨rfl, ew5⟩; subst ew5)))
    go_ret2
    exact ⟨A4, no, cp4, rfl, HO.out, HZ4.out.1, HZ4.out.2.1, HZ4.out.2.2⟩
  · have hres : res = (0, [], l2, f2) := HC.out.2.2.2.2.2.trans (if_neg hf)
    subst hres
    have hbn : (((f2 : Nat) : Int) != 0) = true := by simp; omega
    have hbe : (((f2 : Nat) : Int) == 0) = false := by simp; omega
    go_enter Try.func41, Try.ntmps41
    go_wp2_with (first
      | (go_at_call 48; (with_reducible refine HC.out.1.mono ?_); (rintro e w1 ⟨A1, cp1, rfl, R1, P1, G1⟩; have HZ1 := Lib.hid (And.intro R1 (And.intro P1 G1)); clear R1 P1 G1))
      | (go_at_call 40; (with_reducible refine (HC.out.2.1 _ HZ1.out.2.1).mono ?_); (rintro e w2 ⟨rfl, ew2⟩; subst ew2))
      | (go_at_call 38; (with_reducible refine (HC.out.2.2.1 _ HZ1.out.2.1).mono ?_); (rintro e w3 ⟨rfl, P3, G3⟩; have HZ3 := Lib.hid (And.intro P3 (Coin.grown_trans HZ1.out.2.2 G3)); clear P3 G3))
      | (go_at_call 48; (with_reducible refine (HC.out.2.2.2.1 _ HZ3.out.1).mono ?_); (rintro e w4 ⟨A4, cp4, rfl, R4, P4, G4⟩; have HZ4 := Lib.hid (And.intro P4 (Coin.grown_trans HZ3.out.2 G4)); clear R4 P4 G4))
      | (go_at_call 39; (with_reducible refine (HC.out.2.2.2.2.1 _ HZ4.out.1).mono ?_); (rintro e w5 ⟨rfl, ew5⟩; subst ew5)))
    go_ret2
    exact ⟨none, 0, 0, rfl, rfl, Rd.nil _ _ _, HZ4.out.1, HZ4.out.2⟩
end Go.Proofs.Ytecfblkagbdjlaa.Msg
