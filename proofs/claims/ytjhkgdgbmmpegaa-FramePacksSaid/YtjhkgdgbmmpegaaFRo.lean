/- What the document's own One answers. -/
import Derived.Test.YtjhkgdgbmmpegaaFOn
import Derived.Deep.RegionWith
import Derived.Deep.RegionHeld3
namespace Go.Proofs.Ytjhkgdgbmmpegaa.Frm
open Go.ChangeShapes Go.WideShapes Go.ChangeAt Go.RowKit
open Coin (b8 Rd Row Own sz coin got str)
open Tal (more)

def RoneSaid (w : World) (r : List UInt8) (a : Nat) (e : Ending) (w' : World) : Prop :=
  (err r ≠ 0 → e = .returned (.tuple #[.int .i64 0, .int .i64 0, .int .i64 (err r : Nat)])) ∧
  (err r = 0 → e = .returned (.tuple #[.int .i64 (a + wid r + 1 : Nat), .int .i64 (a + wid r + 1 + cnt r : Nat), .int .i64 0])) ∧ Below w.heap.size w w'
theorem rone_no {w w' : World} {r : List UInt8} {a x : Nat} {e : Ending} (hx : err r = x) (h0 : x ≠ 0) (he : e = .returned (.tuple #[.int .i64 0, .int .i64 0, .int .i64 (x : Nat)])) (hb : Below w.heap.size w w') : RoneSaid w r a e w' :=
  ⟨fun _ => by rw [hx]; exact he, fun h => absurd (hx.symm.trans h) h0, hb⟩
set_option maxHeartbeats 2000000 in
theorem rone_any (A : Option Addr) (cap B a : Nat) (l : List UInt8) (w : World) (hl : l.length ≤ 900000) (hc : l.length ≤ cap) (hA : A = none → cap = 0) (ha : a ≤ l.length) (hB : B ≤ w.heap.size) (hr : Rd w B A l) :
    Calls Try.prog 14 #[.slice A l.length cap, .int .i64 (a : Int)] w (RoneSaid w (l.drop a) a) := by
  obtain ⟨A', hsl, R, hA'⟩ := Coin.cut_any hr l.length cap a rfl hc hA ha
  obtain ⟨r, hrr⟩ : ∃ r, r = l.drop a := ⟨_, rfl⟩
  have hrn : r.length = l.length - a := by rw [hrr, List.length_drop]
  rw [← hrr] at R ⊢
  generalize hm : l.length = m at *
  have hc' : m - a ≤ cap - a := by omega
  obtain ⟨n, hn⟩ : ∃ n, n = m - a := ⟨_, rfl⟩
  obtain ⟨c, hcc⟩ : ∃ c, c = cap - a := ⟨_, rfl⟩
  rw [← hn] at hsl hrn hc'
  rw [← hcc] at hsl hA' hc'
  have ct := Coin.rtake_any A' c B r w (by omega) (by omega) hB R
  rw [hrn] at ct
  unfold Coin.TakeSaid at ct
  have hn9 : n ≤ 900000 := by omega
  have ha9 : a ≤ 900000 := by omega
  have hm9 : m ≤ 900000 := by omega
  have ham : (a : Int) ≤ m := by omega
  have hmn : m = a + n := by omega
  have HN := Lib.hid hrn
  have HR := Lib.hid hrr
  have HM := Lib.hid hm
  have HMN := Lib.hid hmn
  have HCC := Lib.hid hcc
  clear hrn hn hrr hm hmn hcc
  have hg := Coin.got_lt r
  have hgl := got_len r
  obtain ⟨x1, h1⟩ : ∃ x, x = cnt r := ⟨_, rfl⟩
  obtain ⟨x2, h2⟩ : ∃ x, x = wid r := ⟨_, rfl⟩
  obtain ⟨x3, h3⟩ : ∃ x, x = (got r).2.2 := ⟨_, rfl⟩
  have ct := Calls.mono' ct (Q' := fun e w' => e = .returned (.tuple #[.int .u64 (x1 : Nat), .int .i64 (x2 : Nat), .int .i64 (x3 : Nat)]) ∧ Below w.heap.size w w') (by
    rintro e w' ⟨rfl, h⟩
    exact ⟨by rw [h1, h2, h3]; rfl, h⟩)
  have hg1 : x1 < 18446744073709551616 := by rw [h1]; exact hg.1
  have hg2 : x2 ≤ 9 := by rw [h2]; exact hg.2.1
  have hg3 : x3 ≤ 5 := by rw [h3]; exact hg.2.2.2
  clear hg
  rw [← h1, ← h2, ← h3] at hgl
  by_cases he : x3 = 0
  · have hx : err r = if 1048576 < x1 then 6 else if r.length < x2 + 1 + x1 + 4 then 5 else if tailb (more 0 (r.take (x2 + 1 + x1))) = (r.drop (x2 + 1 + x1)).take 4 then 0 else 4 := by
      unfold err
      rw [← h3, he, if_neg (by simp)]
      simp only [summed, summ, size, ← h1, ← h2]
    obtain ⟨q1, q2, q3, q4, _⟩ := hgl he
    subst he
    by_cases hd : 1048576 < x1
    · rw [if_pos hd] at hx
      have HX := Lib.hid hx
      have hd' : (1048576 : Int) < x1 := by omega
      clear hx h1 h2 h3 q1 q2 q3 q4
      go_enter Try.func14, Try.ntmps14
      go_wp2_with (first
        | (go_at_call 21; (with_reducible refine ct.mono ?_); rintro e w2 ⟨rfl, B2⟩))
      (try simp only [Exit.inBlock, Exit.then])
      refine bodyPost_ret (results_tmp3 rfl _ _ _) rfl ?_
      exact rone_no HX.out (by decide) rfl B2
    · rw [if_neg hd] at hx
      have hd' : ¬ (1048576 : Int) < x1 := by omega
      have hw1 : IntKind.i64.wrap (x1 : Int) = x1 := by rw [IntKind.wrap_i64]; omega
      obtain ⟨Z, hZ⟩ : ∃ Z, Z = x2 + 1 + x1 := ⟨_, rfl⟩
      obtain ⟨b, hb⟩ : ∃ b, b = a + Z := ⟨_, rfl⟩
      have hbi : (a : Int) + x2 + 1 + x1 = b := by omega
      rw [HN.out, ← hZ] at hx
      have hb9 : b ≤ 3000000 := by omega
      by_cases hs : n < Z + 4
      · rw [if_pos hs] at hx
        have HX := Lib.hid hx
        have hs' : (m : Int) < (b : Int) + 4 := by have := HMN.out; omega
        clear hx h1 h2 h3 q1 q2 q3 q4 hZ hb
        go_enter Try.func14, Try.ntmps14
        go_wp2_with (first
          | (go_at_call 21; (with_reducible refine ct.mono ?_); rintro e w2 ⟨rfl, B2⟩))
        (try simp only [Exit.inBlock, Exit.then])
        refine bodyPost_ret (results_tmp3 rfl _ _ _) rfl ?_
        exact rone_no HX.out (by decide) rfl B2
      · rw [if_neg hs] at hx
        have hmn := HMN.out
        have hcc := HCC.out
        have hs' : ¬ (m : Int) < (b : Int) + 4 := by omega
        obtain ⟨ad, hAd⟩ : ∃ ad, A = some ad := by
          rcases A with _ | ad
          · have := hA rfl; omega
          · exact ⟨ad, rfl⟩
        subst hAd
        have hb1 := between_any ad m cap a b (by omega) (by omega) (by omega)
        have hb2 := between_any ad m cap b (b + 4) (by omega) (by omega) (by omega)
        rw [show b + 4 - b = 4 by omega, show ((b + 4 : Nat) : Int) = (b : Int) + 4 by omega] at hb2
        rw [show b - a = Z by omega] at hb1
        have hV : (r.take Z).length = Z := by rw [List.length_take, HN.out]; omega
        have hT : ((r.drop Z).take 4).length = 4 := by rw [List.length_take, List.length_drop, HN.out]; omega
        have R1 : Rd w B (some (ad.add a)) (r.take Z) := by rw [HR.out]; exact (hr.cut a).take Z
        have R2 : Rd w B (some (ad.add b)) ((r.drop Z).take 4) := by
          have h := (hr.cut b).take 4
          rw [hb, ← List.drop_drop, ← HR.out, ← hb] at h
          exact h
        generalize r.take Z = V at *
        generalize (r.drop Z).take 4 = T at *
        generalize ad.add a = X1 at *
        generalize ad.add b = X2 at *
        obtain ⟨c2, hc2⟩ : ∃ c2, c2 = cap - b := ⟨_, rfl⟩
        rw [← hc2] at hb2
        rw [← hcc] at hb1
        obtain ⟨U, hU⟩ : ∃ U, U = tailb (more 0 V) := ⟨_, rfl⟩
        have hU4 : U.length = 4 := by rw [hU]; rfl
        have HV := Lib.hid hV
        have HT := Lib.hid hT
        have cT : ∀ W, Below w.heap.size w W → Calls Try.prog 19 #[.slice (some X1) Z c] W fun e w' => ∃ A, e = .returned (.slice A 4 4) ∧ Rd w' w'.heap.size A U ∧ Below W.heap.size W w' := fun W hW => by
          have h := tail_any (some X1) c B V W (by rw [HV.out]; omega) (R1.below hW hB)
          rw [HV.out] at h
          unfold TailSaid at h
          rw [← hU] at h; exact h.mono fun e w' h => ⟨_, h.1, h.2.1.rd, h.2.2⟩
        have hcv : ∀ W, Below w.heap.size w W → (convert 22 9 (.slice (some X2) 4 c2)).run Try.prog W = .ok (.string (str T)) W := fun W hW => Coin.conv_any (R2.below hW hB) 4 c2 HT.out.symm
        rw [hU.symm] at hx
        obtain ⟨y, hy⟩ : ∃ y, y = decide (U = T) := ⟨_, rfl⟩
        have heq : ((str U).toList == (str T).toList) = y := by
          rw [Coin.str_toList, Coin.str_toList, hy, Bool.eq_iff_iff, beq_iff_eq, decide_eq_true_eq]
        have HY := Lib.hid (And.intro hx (And.intro hy (And.intro h1 (And.intro h2 (And.intro hb hZ)))))
        have HU4 := Lib.hid hU4
        have HCV : Hid (∀ W, Below w.heap.size w W → (convert 22 9 (.slice (some X2) 4 c2)).run Try.prog W = .ok (.string (str T)) W) := hcv
        clear hx hy h1 h2 h3 q1 q2 q3 q4 hb hZ hU hV hT hcv hU4 R1 R2 hr R hmn hcc hc2 hs hd
        go_enter Try.func14, Try.ntmps14
        go_wp2_with (first
          | (go_at_call 21; (with_reducible refine ct.mono ?_); rintro e w2 ⟨rfl, B2⟩))
        have CV1 := HCV.out w2.drew B2.drew
        have hw2 : IntKind.i64.wrap ((b : Int) + 4) = (b : Int) + 4 := by rw [IntKind.wrap_i64]; omega
        go_region_with (go_at_call 19; refine (cT _ B2.drew).mono ?_; rintro e w3 ⟨A3, rfl, R3, B3⟩; have CV2 := HCV.out w3 (B2.drew.trans (B3.mono B2.drew.size)); have CV3 := Coin.conv_any R3 4 4 HU4.out.symm)
        all_goals
          clear CV1 CV2 CV3 ct
          have HEQ := Lib.hid heq
          clear heq
          cases y with
          | false =>
            have hne : err r = 4 := by rw [HY.out.1, if_neg (of_decide_eq_false HY.out.2.1.symm)]
            have HX := Lib.hid hne
            clear hne
            go_wp2_with fail
            (try simp only [Exit.inBlock, Exit.then])
            refine bodyPost_ret (results_tmp3 rfl _ _ _) rfl ?_
            exact rone_no HX.out (by decide) rfl (B2.drew.trans (B3.mono B2.drew.size))
          | true =>
            have h0 : err r = 0 := by rw [HY.out.1, if_pos (of_decide_eq_true HY.out.2.1.symm)]
            have HX := Lib.hid h0
            clear h0
            go_wp2_with fail
            (try simp only [Exit.inBlock, Exit.then])
            refine bodyPost_ret (results_tmp3 rfl _ _ _) rfl ?_
            refine ⟨fun h => absurd HX.out h, fun _ => ?_, B2.drew.trans (B3.mono B2.drew.size)⟩
            have hb := HY.out.2.2.2.2.1
            have hZ := HY.out.2.2.2.2.2
            rw [← HY.out.2.2.1, ← HY.out.2.2.2.1, show a + x2 + 1 + x1 = b by omega, Int.natCast_add, Int.natCast_add]
            rfl
  · have hx : err r = x3 := by unfold err; rw [← h3, if_pos he]
    have HX := Lib.hid hx
    clear hx h1 h2 h3 hgl
    go_enter Try.func14, Try.ntmps14
    go_wp2_with (first
      | (go_at_call 21; (with_reducible refine ct.mono ?_); rintro e w2 ⟨rfl, B2⟩))
    (try simp only [Exit.inBlock, Exit.then])
    refine bodyPost_ret (results_tmp3 rfl _ _ _) rfl ?_
    exact rone_no HX.out he rfl B2
end Go.Proofs.Ytjhkgdgbmmpegaa.Frm
