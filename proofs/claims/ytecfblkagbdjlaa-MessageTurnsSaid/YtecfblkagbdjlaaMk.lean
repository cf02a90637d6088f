/- Contract: takeParts. -/
import Derived.Test.YtecfblkagbdjlaaMj
namespace Go.Proofs.Ytecfblkagbdjlaa.Msg
open Go.ChangeShapes Go.WideShapes Go.ChangeAt Go.RowKit
open Coin (coin sz b8 Rd Row Own CoinOwn put_any sz_le length_coin takeV endV bytesV got got_lt Pur take_any BytesSaid bytes_any)
set_option maxRecDepth 8000

theorem PsI.bad {R : Option (List Pt × Nat)} {L : Nat} {w wx w' : World} {q f' u : Nat} {b : UInt8} {r l' own : List UInt8} {xs : List Pt} {v : Value} {k : Nat} (h : PsI R L w wx q (b :: r) 0 u xs v) (ht : t1 b r = (k, own, l', f')) (hk : isKnown k = false) (P : Pur w' q l' f') (G : wx.grownBy w' (some q)) : PsI R L w w' q l' f' (u + 1) xs v := by
  have hf := t1_facts b r
  have hd := dp_cons b r
  have ho := h.ok rfl
  have h1 := h.ul
  have h2 := h.xl
  rw [ht] at hf hd
  simp only [List.length_cons] at hf hd h1 h2
  refine ⟨h.ps.one P G, hf.2.2.2, by omega, by omega, fun h0 => ?_, fun h0 => ?_⟩
  · rw [ho, hd, if_neg (by omega), if_neg (by simp [hk]), Option.map_map]
    congr 1
    funext x
    simp [Nat.add_comm, Nat.add_left_comm]
  · rw [ho, hd, if_pos h0]; rfl
theorem PsI.wrong {R : Option (List Pt × Nat)} {L : Nat} {w wx : World} {q f' u : Nat} {b : UInt8} {r l' own : List UInt8} {xs : List Pt} {v : Value} {k : Nat} (h : PsI R L w wx q (b :: r) 0 u xs v) (ht : t1 b r = (k, own, l', f')) (hk : isKnown k = true) (he : (po k own).2 ≠ 0) : R = none := by
  have hd := dp_cons b r
  have ho := h.ok rfl
  rw [ht] at hd
  simp only at hd
  rw [ho, hd]
  by_cases h0 : f' = 0
  · simp [h0, hk, he]
  · simp [h0]
theorem PsI.good {R : Option (List Pt × Nat)} {L : Nat} {w wx w' : World} {q f' u : Nat} {b : UInt8} {r l' own : List UInt8} {xs : List Pt} {v v' : Value} {k : Nat} (h : PsI R L w wx q (b :: r) 0 u xs v) (ht : t1 b r = (k, own, l', f')) (hk : isKnown k = true) (he : (po k own).2 = 0) (P : Ps w w' q l' f' (xs ++ [(po k own).1]) v') : PsI R L w w' q l' f' u (xs ++ [(po k own).1]) v' := by
  have hf := t1_facts b r
  have hd := dp_cons b r
  have ho := h.ok rfl
  have h1 := h.ul
  have h2 := h.xl
  rw [ht] at hf hd
  simp only [List.length_cons] at hf hd h1 h2
  refine ⟨P, hf.2.2.2, by omega, by rw [List.length_append, List.length_singleton]; omega, fun h0 => ?_, fun h0 => ?_⟩
  · rw [ho, hd, if_neg (by omega), if_pos hk, if_neg (by omega), Option.map_map]
    congr 1
    funext x
    simp
  · rw [ho, hd, if_pos h0]; rfl
set_option maxHeartbeats 2000000 in
theorem parts_any (w : World) (q : Nat) (l0 : List UInt8) (f0 : Nat) (h : Pur w q l0 f0) (hf : f0 ≤ 12) (hl : l0.length ≤ 90000) (R : Option (List Pt × Nat)) (hR : R = if f0 ≠ 0 then none else dp l0) :
    Calls Try.prog 30 #[.pointer (some ⟨q, 0, none⟩)] w (TpsSaid w q R) := by
  have h0 : PsI R l0.length w w q l0 f0 0 [] (.slice none 0 0) := by
    refine ⟨⟨h, PtOwn.nil _ _, ⟨rfl, rfl, rfl, Nat.le_refl _, fun _ _ _ => rfl⟩, h.lt⟩, hf, by omega, by simp, fun e => ?_, fun e => ?_⟩
    · rw [hR, if_neg (by omega)]; simp
    · rw [hR, if_pos e]
  have H0 := Lib.hid h0
  generalize hL : l0.length = L at *
  clear h hf hR h0 hL
  go_enter Try.func30, Try.ntmps30
  go_wp2
  go_loopw [5, 6] (fun v u wr => ∃ uu : Nat, u = .int .i64 uu ∧ ∃ l f xs, Hid (PsI R L w wr q l f uu xs v)) (fun _ _ wr => msr q wr)
  case atStart => exact ⟨0, rfl, l0, f0, [], H0⟩
  case round =>
    obtain ⟨u, rfl, l, f, xs, HI⟩ := hrel
    clear H0
    have cF := fun W (hP : Pur W q l f) => Coin.fault_any W q l f hP
    have cL := fun W (hP : Pur W q l f) => Coin.left_any W q l f hP
    have cE := fun W (hP : Pur W q l f) => Coin.end_any W q l f hP
    have hms : msr q wr = l.length + (if f = 0 then 1 else 0) := msr_pur HI.out.ps.pu
    by_cases hf : f = 0
    · subst hf
      rcases l with _ | ⟨b, r⟩
      · have hen : endV [] 0 = 0 := rfl
        rw [hen] at cE
        have HC := Lib.hid (And.intro cF (And.intro cL cE))
        clear cF cL cE hms hen
        simp only [List.length_nil] at HC
        obtain ⟨Ax, cx, hv, hsl⟩ := HI.out.ps.own.form
        obtain ⟨nx, hnx⟩ : ∃ nx, nx = xs.length := ⟨_, rfl⟩
        rw [← hnx] at hv
        have HS := Lib.hid (And.intro hsl hnx)
        clear hsl hnx
        subst hv
        go_wp2_with (first
          | (go_at_call 39; (with_reducible refine (HC.out.1 _ HI.out.ps.pu).mono ?_); rintro e wa ⟨rfl, ea⟩; subst ea)
          | (go_at_call 40; (with_reducible refine (HC.out.2.1 _ HI.out.ps.pu).mono ?_); rintro e wa ⟨rfl, ea⟩; subst ea)
          | (go_at_call 44; (with_reducible refine (HC.out.2.2 _ HI.out.ps.pu).mono ?_); rintro e wa ⟨rfl, ea⟩; subst ea))
        go_ret3
        have hr := HI.out.ok rfl
        rw [dp_nil] at hr
        simp at hr
        rw [hr]
        exact ⟨Ax, cx, by have := HS.out.2; subst this; rfl, HS.out.1, by have := HI.out.xl; simp at this; show xs.length ≤ 100000; omega, HI.out.ps.gr⟩
      · have hlr : r.length ≤ 90000 := by have := HI.out.ul; simp at this; omega
        have c1 := one_any wr q b r HI.out.ps.pu hlr
        obtain ⟨k, own, l', f', ht⟩ : ∃ k own l' f', t1 b r = (k, own, l', f') := ⟨_, _, _, _, rfl⟩
        have hft := t1_facts b r
        rw [ht] at c1 hft
        unfold T1Said at c1
        simp only at c1 hft
        have hkn := known_any k
        have hpo := fun W A m cap h1 h2 (hk : isKnown k = true) => part_any k hk W A m cap own h1 h2
        obtain ⟨m1, hm1⟩ : ∃ m1, m1 = r.length + 1 := ⟨_, rfl⟩
        simp only [List.length_cons] at cL hms
        rw [← hm1] at cL
        have hm0 : 0 < m1 := by omega
        cases hk : isKnown k
        · rw [hk] at hkn
          have HC := Lib.hid (And.intro cF (And.intro cL (And.intro c1 (And.intro hkn (And.intro ht hk)))))
          have HM := Lib.hid (And.intro hms hft)
          clear cF cL cE c1 hkn hpo ht hk hms hm1 hft hlr
          have hu : IntKind.i64.wrap ((u : Int) + 1) = ((u + 1 : Nat) : Int) := by have := HI.out.ul; simp at this; rw [IntKind.wrap_i64]; omega
          go_wp2_with (first
            | (go_at_call 39; (with_reducible refine (HC.out.1 _ HI.out.ps.pu).mono ?_); rintro e wa ⟨rfl, ea⟩; subst ea)
            | (go_at_call 40; (with_reducible refine (HC.out.2.1 _ HI.out.ps.pu).mono ?_); rintro e wa ⟨rfl, ea⟩; subst ea)
            | (go_at_call 41; (with_reducible refine HC.out.2.2.1.mono ?_); (rintro e w2 ⟨A2, n2, c2, rfl, hn2, R2, P2, G2⟩; have HZ := Lib.hid (HI.out.bad HC.out.2.2.2.2.1 HC.out.2.2.2.2.2 P2 G2); clear hn2 R2 P2 G2))
            | (go_at_call 42; (with_reducible refine (HC.out.2.2.2.1 _).mono ?_); rintro e wa ⟨rfl, ea⟩; subst ea))
          go_roundw
          case rel => exact ⟨u + 1, by go_num, l', f', xs, HZ⟩
          case measure =>
            have h1 := msr_pur HZ.out.ps.pu
            have h2 := HM.out.1
            have h3 := HM.out.2.2.2.1
            rw [h1, h2]
            split <;> simp <;> omega
        · rw [hk] at hkn
          have hpl := po_le k own
          have hpo := fun W A m cap h1 h2 => hpo W A m cap h1 h2 hk
          unfold PoSaid at hpo
          obtain ⟨x, er, hpe⟩ : ∃ x er, po k own = (x, er) := ⟨_, _, rfl⟩
          rw [hpe] at hpl hpo
          simp only at hpl hpo
          have hpo : ∀ (W : World) (A : Option Addr) (m cap : Nat), m = own.length → m ≤ 100000 → Rd W W.heap.size A own → Calls Try.prog 43 #[.int .u8 (k : Int), .slice A m cap] W fun e w' => e = .returned (.tuple #[.agg #[.int .u8 (x.K : Int), .int .u64 (x.N : Int), .int .i64 x.Nd, .int .u32 (x.A : Int), .int .u8 (x.L : Int), .int .u16 (x.Sq : Int), .int .u16 (x.M : Int)], .int .i64 (er : Int)]) ∧ Below W.heap.size W w' := hpo
          have HC := Lib.hid (And.intro cF (And.intro cL (And.intro c1 (And.intro hkn (And.intro ht (And.intro hk (And.intro hpo hpe)))))))
          have HM := Lib.hid (And.intro hms hft)
          have hol : own.length ≤ 100000 := by omega
          clear cF cL cE c1 hkn hpo ht hk hms hm1 hft hlr hpe
          by_cases he : er = 0
          · subst he
            obtain ⟨Ax, cx, hv, -⟩ := HI.out.ps.own.form
            obtain ⟨nx, hnx⟩ : ∃ nx, nx = xs.length := ⟨_, rfl⟩
            rw [← hnx] at hv
            clear hnx
            subst hv
            go_wp2_with (first
              | (go_at_call 39; (with_reducible refine (HC.out.1 _ HI.out.ps.pu).mono ?_); rintro e wa ⟨rfl, ea⟩; subst ea)
              | (go_at_call 40; (with_reducible refine (HC.out.2.1 _ HI.out.ps.pu).mono ?_); rintro e wa ⟨rfl, ea⟩; subst ea)
              | (go_at_call 41; (with_reducible refine HC.out.2.2.1.mono ?_); (rintro e w2 ⟨A2, n2, c2, rfl, hn2, R2, P2, G2⟩; have HP2 := Lib.hid (HC.out.2.2.2.2.2.2.1 w2 A2 n2 c2 hn2 (by omega) R2); have HZ := Lib.hid (HI.out.ps.one P2 G2); clear hn2 R2 P2 G2))
              | (go_at_call 42; (with_reducible refine (HC.out.2.2.2.1 _).mono ?_); rintro e wa ⟨rfl, ea⟩; subst ea)
              | (go_at_call 43; (with_reducible refine HP2.out.mono ?_); (rintro e w3 ⟨rfl, B3⟩; have HZ3 := Lib.hid (HZ.out.step B3); have B4 := (Below.refl w3.heap.size w3).alloc (Nat.le_refl _) (.cells #[.int .u8 (x.K : Int), .int .u64 (x.N : Int), .int .i64 x.Nd, .int .u32 (x.A : Int), .int .u8 (x.L : Int), .int .u16 (x.Sq : Int), .int .u16 (x.M : Int)] 28); have R4 := heap_alloc_new w3 (.cells #[.int .u8 (x.K : Int), .int .u64 (x.N : Int), .int .i64 x.Nd, .int .u32 (x.A : Int), .int .u8 (x.L : Int), .int .u16 (x.Sq : Int), .int .u16 (x.M : Int)] 28); obtain ⟨⟨g0, g1, g2, g3, g4, g5, g6⟩, -⟩ := row7 R4; have HZ4 := Lib.hid (HZ3.out.step (B4.alloc (by simp) (.cells #[.int .u8 (x.K : Int), .int .u64 (x.N : Int), .int .i64 x.Nd, .int .u32 (x.A : Int), .int .u8 (x.L : Int), .int .u16 (x.Sq : Int), .int .u16 (x.M : Int)] 28))); have hcp := cells_pt (w3.alloc (.cells #[.int .u8 (x.K : Int), .int .u64 (x.N : Int), .int .i64 x.Nd, .int .u32 (x.A : Int), .int .u8 (x.L : Int), .int .u16 (x.Sq : Int), .int .u16 (x.M : Int)] 28)) x (w3.heap.size + 1) (by simp) #[.int .u8 (x.K : Int), .int .u64 (x.N : Int), .int .i64 x.Nd, .int .u32 (x.A : Int), .int .u8 (x.L : Int), .int .u16 (x.Sq : Int), .int .u16 (x.M : Int)] rfl; have HQ := Lib.hid (And.intro hcp (show w.heap.size ≤ ((w3.alloc (.cells #[.int .u8 (x.K : Int), .int .u64 (x.N : Int), .int .i64 x.Nd, .int .u32 (x.A : Int), .int .u8 (x.L : Int), .int .u16 (x.Sq : Int), .int .u16 (x.M : Int)] 28)).alloc (.cells #[.int .u8 (x.K : Int), .int .u64 (x.N : Int), .int .i64 x.Nd, .int .u32 (x.A : Int), .int .u8 (x.L : Int), .int .u16 (x.Sq : Int), .int .u16 (x.M : Int)] 28)).heap.size from HZ4.out.gr.size)); clear B3 B4 R4 hcp))
              | (at_builtin; (with_reducible refine app_pt rfl (.tmp 39) (.tmp 41) rfl w.heap.size (.slice Ax nx cx) xs x (w3.heap.size + 1) rfl rfl HZ4.out.own HQ.out.1 (by have := HI.out.xl; omega) HQ.out.2 ?_); (intro v9 w9 O9 G9; have HZ9 := Lib.hid (HZ4.out.app O9 G9); clear O9 G9)))
            go_roundw
            case rel =>
              have hx : (po k own).1 = x := by rw [HC.out.2.2.2.2.2.2.2]
              have h2 := HI.out.good (v' := v9) (w' := w9) HC.out.2.2.2.2.1 HC.out.2.2.2.2.2.1 (by rw [HC.out.2.2.2.2.2.2.2]) (by rw [hx]; exact HZ9.out)
              exact ⟨u, rfl, l', f', _, h2⟩
            case measure =>
              have h1 := msr_pur HZ9.out.pu
              have h2 := HM.out.1
              have h3 := HM.out.2.2.2.1
              rw [h1, h2]
              split <;> simp <;> omega
          · have hbn : (((er : Nat) : Int) != 0) = true := by simp; omega
            have hbe : (((er : Nat) : Int) == 0) = false := by simp; omega
            go_wp2_with (first
              | (go_at_call 39; (with_reducible refine (HC.out.1 _ HI.out.ps.pu).mono ?_); rintro e wa ⟨rfl, ea⟩; subst ea)
              | (go_at_call 40; (with_reducible refine (HC.out.2.1 _ HI.out.ps.pu).mono ?_); rintro e wa ⟨rfl, ea⟩; subst ea)
              | (go_at_call 41; (with_reducible refine HC.out.2.2.1.mono ?_); (rintro e w2 ⟨A2, n2, c2, rfl, hn2, R2, P2, G2⟩; have HP2 := Lib.hid (HC.out.2.2.2.2.2.2.1 w2 A2 n2 c2 hn2 (by omega) R2); have HZ := Lib.hid (HI.out.ps.one P2 G2); clear hn2 R2 P2 G2))
              | (go_at_call 42; (with_reducible refine (HC.out.2.2.2.1 _).mono ?_); rintro e wa ⟨rfl, ea⟩; subst ea)
              | (go_at_call 43; (with_reducible refine HP2.out.mono ?_); (rintro e w3 ⟨rfl, B3⟩; have HZ4 := Lib.hid ((HZ.out.step B3).step ((Below.refl w3.heap.size w3).alloc (Nat.le_refl _) (.cells #[.int .u8 (x.K : Int), .int .u64 (x.N : Int), .int .i64 x.Nd, .int .u32 (x.A : Int), .int .u8 (x.L : Int), .int .u16 (x.Sq : Int), .int .u16 (x.M : Int)] 28))); clear B3)))
            go_ret3
            have hn := HI.out.wrong HC.out.2.2.2.2.1 HC.out.2.2.2.2.2.1 (by rw [HC.out.2.2.2.2.2.2.2]; exact he)
            rw [hn]
            exact ⟨er, he, hpl, rfl, HZ4.out.gr⟩
    · have hen : endV l f = f := by unfold endV; rw [if_neg (fun h => hf h.1)]
      rw [hen] at cE
      have HC := Lib.hid (And.intro cF cE)
      have hbn : (((f : Nat) : Int) != 0) = true := by simp; omega
      have hbe : (((f : Nat) : Int) == 0) = false := by simp; omega
      clear cF cL cE hms hen
      go_wp2_with (first
        | (go_at_call 39; (with_reducible refine (HC.out.1 _ HI.out.ps.pu).mono ?_); rintro e wa ⟨rfl, ea⟩; subst ea)
        | (go_at_call 44; (with_reducible refine (HC.out.2 _ HI.out.ps.pu).mono ?_); rintro e wa ⟨rfl, ea⟩; subst ea))
      go_ret3
      rw [HI.out.no hf]
      exact ⟨f, hf, HI.out.fl, rfl, HI.out.ps.gr⟩
end Go.Proofs.Ytecfblkagbdjlaa.Msg
