/- Contract: Encode. -/
import Derived.Test.YtecfblkagbdjlaaMd
namespace Go.Proofs.Ytecfblkagbdjlaa.Msg
open Go.ChangeShapes Go.WideShapes Go.ChangeAt Go.RowKit
open Coin (coin sz b8 Rd Row Own CoinOwn put_any sz_le length_coin)
open Tal (more)
set_option maxRecDepth 8000

/-- A part in memory. -/
abbrev PAt (w : World) (b o : Nat) (x : Pt) : Prop :=
  w.cell? ⟨b, o, none⟩ = some (.int .u8 (x.K : Int)) ∧ w.cell? ⟨b, o + 1, none⟩ = some (.int .u64 (x.N : Int)) ∧ w.cell? ⟨b, o + 2, none⟩ = some (.int .i64 x.Nd) ∧ w.cell? ⟨b, o + 3, none⟩ = some (.int .u32 (x.A : Int)) ∧
  w.cell? ⟨b, o + 4, none⟩ = some (.int .u8 (x.L : Int)) ∧ w.cell? ⟨b, o + 5, none⟩ = some (.int .u16 (x.Sq : Int)) ∧ w.cell? ⟨b, o + 6, none⟩ = some (.int .u16 (x.M : Int))
theorem PAt.keep {w w' : World} {b o : Nat} {x : Pt} (h : PAt w b o x) (hb : w'.heap[b]? = w.heap[b]?) : PAt w' b o x := by
  have e : ∀ k, w'.cell? ⟨b, k, none⟩ = w.cell? ⟨b, k, none⟩ := fun k => World.cell?_of_block hb
  exact ⟨(e _).trans h.1, (e _).trans h.2.1, (e _).trans h.2.2.1, (e _).trans h.2.2.2.1, (e _).trans h.2.2.2.2.1, (e _).trans h.2.2.2.2.2.1, (e _).trans h.2.2.2.2.2.2⟩
/-- Parts in memory. -/
def PSl (w : World) (A : Option Addr) (l : List Pt) : Prop := ∀ k (hk : k < l.length), ∃ b o, A = some ⟨b, o, none⟩ ∧ b < w.heap.size ∧ PAt w b (o + k * 7) l[k]
theorem PSl.below {w w' : World} {A : Option Addr} {l : List Pt} (h : PSl w A l) (hb : Below w.heap.size w w') : PSl w' A l := fun k hk => by
  obtain ⟨b, o, e, h1, h2⟩ := h k hk
  exact ⟨b, o, e, Nat.lt_of_lt_of_le h1 hb.size, h2.keep (hb.block b h1)⟩
theorem kept_succ (l : List Pt) (j : Nat) (hj : j < l.length) : kept (l.take (j + 1)) = if (kept (l.take j)).length < 300 ∧ l[j].rt = true then kept (l.take j) ++ [l[j]] else kept (l.take j) := by
  unfold kept
  rw [List.take_succ_eq_append_getElem hj, List.filter_append]
  generalize (l.take j).filter Pt.rt = F
  by_cases hr : l[j].rt = true
  · have e : [l[j]].filter Pt.rt = [l[j]] := by simp [hr]
    rw [e]
    by_cases h : F.length < 300
    · rw [if_pos ⟨by rw [List.length_take]; omega, hr⟩, List.take_of_length_le (by simp; omega), List.take_of_length_le (by omega)]
    · rw [if_neg (by rw [List.length_take]; omega), List.take_append_of_le_length (by omega)]
  · have e : [l[j]].filter Pt.rt = [] := by simp [hr]
    rw [e, if_neg (fun h => hr h.2), List.append_nil]
theorem encB_succ (f : Nat) (l : List Pt) (j : Nat) (hj : j < l.length) : encB f (l.take (j + 1)) = if (kept (l.take j)).length < 300 ∧ l[j].rt = true then encB f (l.take j) ++ l[j].bytes else encB f (l.take j) := by
  unfold encB
  rw [kept_succ l j hj]
  split
  · rw [List.flatMap_append]; simp
  · rfl
theorem row7 {w : World} {g : Nat} {v0 v1 v2 v3 v4 v5 v6 : Value} (h : w.heap[g]? = some (.cells #[v0, v1, v2, v3, v4, v5, v6] 28 (0, 0))) :
    (w.cell? ⟨g, 0, none⟩ = some v0 ∧ w.cell? ⟨g, 1, none⟩ = some v1 ∧ w.cell? ⟨g, 2, none⟩ = some v2 ∧ w.cell? ⟨g, 3, none⟩ = some v3 ∧ w.cell? ⟨g, 4, none⟩ = some v4 ∧ w.cell? ⟨g, 5, none⟩ = some v5 ∧ w.cell? ⟨g, 6, none⟩ = some v6) ∧ ∀ j, w.frozen? ⟨g, j, none⟩ = false := by
  refine ⟨⟨?_, ?_, ?_, ?_, ?_, ?_, ?_⟩, fun j => frozen_of_row w g j _ 28 h⟩
  all_goals (rw [cell_of_row w g _ _ 28 (0, 0) h]; rfl)
theorem put_one (w : World) (g f : Nat) (b : UInt8) (hR : Row w g [b]) (hf : f < 18446744073709551616) : Calls Try.prog 20 #[.slice (some ⟨g, 0, none⟩) 1 1, .int .u64 (f : Int)] w fun e w' => e = .returned (.slice (some ⟨w.heap.size, 0, none⟩) (1 + sz f) (1 + sz f)) ∧ Row w' w.heap.size ([b] ++ coin f) ∧ Below w.heap.size w w' :=
  put_any (some ⟨g, 0, none⟩) 1 [b] f w hf (by show 1 ≤ _; omega) hR.rd
set_option maxHeartbeats 1000000 in
theorem enc_any (w : World) (f n cp : Nat) (A : Option Addr) (l : List Pt) (hf : f < 9223372036854775808) (hn : n = l.length) (hl : n ≤ 1000) (hsl : PSl w A l) (hx : ∀ x ∈ l, x.Fits) :
    Calls Try.prog 9 #[.agg #[.int .i64 (f : Int), .slice A n cp]] w (CoinOwn w (enc f l)) := by
  have hwf : IntKind.u64.wrap (f : Int) = f := by rw [wrap_u64]; omega
  have hwf2 : IntKind.i64.wrap (f : Int) = f := by rw [IntKind.wrap_i64]; omega
  have R0 := heap_alloc_new w (.cells #[.int .i64 (f : Int), .slice A n cp] 34)
  have B0 : Below w.heap.size w (w.alloc (.cells #[.int .i64 (f : Int), .slice A n cp] 34)) := (Below.refl _ _).alloc (Nat.le_refl _) _
  have S0 : (w.alloc (.cells #[.int .i64 (f : Int), .slice A n cp] 34)).heap.size = w.heap.size + 1 := by simp
  have HX := Lib.hid (And.intro hn (And.intro hsl hx))
  clear hn hsl hx
  have hYe : enc f l = encB f l ++ tailb (more 0 (encB f l)) := rfl
  obtain ⟨Y, hY⟩ : ∃ Y, Y = enc f l := ⟨_, rfl⟩
  rw [← hY] at hYe ⊢
  have HY0 := Lib.hid hYe
  clear hY hYe
  go_enter Try.func9, Try.ntmps9
  go_upto_region 1 with (fail)
  generalize w.alloc (.cells #[.int .i64 (f : Int), .slice A n cp] 34) = w1 at *
  have k0 : w1.cell? ⟨w.heap.size, 0, none⟩ = some (.int .i64 (f : Int)) := by rw [cell_of_row w1 w.heap.size 0 _ 34 (0, 0) R0]; rfl
  have k1 : w1.cell? ⟨w.heap.size, 1, none⟩ = some (.slice A n cp) := by rw [cell_of_row w1 w.heap.size 1 _ 34 (0, 0) R0]; rfl
  have e1 : w.heap.size < w1.heap.size := by omega
  have HS := Lib.hid S0
  clear S0
  have R1 := Coin.Row.lit w1 [1]
  have B1 : Below w1.heap.size w1 (w1.alloc (.cells #[.int .u8 1] 5)) := (Below.refl _ _).alloc (Nat.le_refl _) _
  have hput := put_one (w1.alloc (.cells #[.int .u8 1] 5)) w1.heap.size f 1 R1 (by omega)
  have hsz := sz_le f
  obtain ⟨z, hz⟩ : ∃ z, z = sz f := ⟨_, rfl⟩
  rw [← hz] at hput hsz
  have hlc : (([1] : List UInt8) ++ coin f).length = 1 + z := by rw [List.length_append, length_coin, ← hz]; rfl
  have HP := Lib.hid (And.intro hput (And.intro B1 (And.intro hlc (And.intro R0 B0))))
  clear hput B1 R1 hz hlc R0 B0
  go_upto_region 2 with (go_at_call 20; (with_reducible refine HP.out.1.mono ?_); rintro e w2 ⟨rfl, R2, B2⟩; have HW := Lib.hid (And.intro R2 (show Below w1.heap.size w1 w2 from HP.out.2.1.trans (B2.mono (by simp)))); clear R2 B2)
  have O2 := HW.out.1.own (B := w.heap.size + 1) (by have := HS.out; simp; omega) (by rw [HP.out.2.2.1]; omega)
  have B2 : Below (w.heap.size + 1) w1 w2 := HW.out.2.mono (by have := HS.out; omega)
  rw [HP.out.2.2.1] at O2
  have k1' : w2.cell? ⟨w.heap.size, 1, none⟩ = some (.slice A n cp) := by rw [World.cell?_of_block (B2.block w.heap.size (by omega))]; exact k1
  have HO := Lib.hid (And.intro O2 B2)
  clear O2 B2 k0 k1
  go_wp2
  go_loopw [3, 4, 16] (fun p c i wr => ∃ j : Nat, j ≤ n ∧ i = .int .i64 j ∧ ∃ t : Nat, c = .int .i64 t ∧ Hid (t = (kept (l.take j)).length ∧ Own wr (w.heap.size + 1) p (encB f (l.take j)) ∧ Below (w.heap.size + 1) w1 wr)) (fun _ _ i _ => n - (intOf i).toNat)
  case atStart => exact ⟨0, by omega, rfl, 0, rfl, ⟨rfl, by simpa [encB, kept] using HO.out.1, HO.out.2⟩⟩
  case round =>
    obtain ⟨j, hj, rfl, t, rfl, HR⟩ := hrel
    have HBw : Hid (Below w.heap.size w wr) := HP.out.2.2.2.2.trans (HR.out.2.2.mono (by omega))
    by_cases hlt : j < n
    · have hjl : j < l.length := by rw [← HX.out.1]; exact hlt
      obtain ⟨bb, oo, ea, hb, hc0⟩ := (HX.out.2.1.below HBw.out) j hjl
      subst ea
      have hfit := HX.out.2.2 _ (List.getElem_mem hjl)
      have hes := encB_succ f l j hjl
      have hks := kept_succ l j hjl
      have hlen := encB_len f (l.take j)
      generalize l[j] = x at *
      obtain ⟨c0, c1, c2, c3, c4, c5, c6⟩ := hc0
      have R6 := heap_alloc_new wr (.cells #[.int .u8 (x.K : Int), .int .u64 (x.N : Int), .int .i64 x.Nd, .int .u32 (x.A : Int), .int .u8 (x.L : Int), .int .u16 (x.Sq : Int), .int .u16 (x.M : Int)] 28)
      have B6 : Below wr.heap.size wr (wr.alloc (.cells #[.int .u8 (x.K : Int), .int .u64 (x.N : Int), .int .i64 x.Nd, .int .u32 (x.A : Int), .int .u8 (x.L : Int), .int .u16 (x.Sq : Int), .int .u16 (x.M : Int)] 28)) := (Below.refl _ _).alloc (Nat.le_refl _) _
      have hrt := fun W => right_any x hfit W
      have hpt := fun (hr : x.rt = true) W w0 B0 B v (h1 : Own W B v (encB f (l.take j))) h2 h3 h4 => put_part W w0 B0 B v (encB f (l.take j)) x h1 hfit hr (by omega) h2 h3 h4
      have hrt : ∀ W, Calls Try.prog 13 #[.agg #[.int .u8 (x.K : Int), .int .u64 (x.N : Int), .int .i64 x.Nd, .int .u32 (x.A : Int), .int .u8 (x.L : Int), .int .u16 (x.Sq : Int), .int .u16 (x.M : Int)]] W fun e w' => e = .returned (.bool x.rt) ∧ Below W.heap.size W w' := hrt
      have hpt : x.rt = true → ∀ (W w0 : World) (B0 B : Nat) (v : Value) (h1 : Own W B v (encB f (l.take j))) (h2 : B ≤ W.heap.size) (h3 : Below B0 w0 W) (h4 : B0 ≤ B), Calls Try.prog 21 #[v, .agg #[.int .u8 (x.K : Int), .int .u64 (x.N : Int), .int .i64 x.Nd, .int .u32 (x.A : Int), .int .u8 (x.L : Int), .int .u16 (x.Sq : Int), .int .u16 (x.M : Int)]] W (Longer w0 B0 B (encB f (l.take j) ++ x.bytes)) := hpt
      have HC := Lib.hid (And.intro hrt (And.intro hpt (And.intro hes (And.intro hks (And.intro R6 B6)))))
      clear hrt hpt hes hks R6 B6 hlen hfit
      go_upto_region 6 with (fail)
      clear c0 c1 c2 c3 c4 c5 c6
      by_cases h300 : t < 300
      · cases hr : x.rt
        · have HY := Lib.hid hr
          clear hr
          go_wp2_with (go_at_call 13; (with_reducible refine (HC.out.1 _).mono ?_); rintro e w7 ⟨rfl, B7⟩; rw [HY.out]; have HZ := Lib.hid (HC.out.2.2.2.2.2.trans (B7.mono HC.out.2.2.2.2.2.size)); clear B7)
          go_roundw
          case rel =>
            refine ⟨j + 1, by omega, by go_num, t, rfl, ?_⟩
            have e1 := HC.out.2.2.1
            have e2 := HC.out.2.2.2.1
            rw [if_neg (fun h => by have := HY.out; rw [h.2] at this; cases this)] at e1 e2
            rw [e1, e2]
            exact ⟨HR.out.1, HR.out.2.1.kept HZ.out, HR.out.2.2.trans (HZ.out.mono (by have := HS.out; have := HR.out.2.2.size; omega))⟩
          case measure => simp [intOf]; omega
        · have HY := Lib.hid hr
          clear hr
          go_wp2_with (first
            | (go_at_call 13; (with_reducible refine (HC.out.1 _).mono ?_); rintro e w7 ⟨rfl, B7⟩; rw [HY.out]; obtain ⟨⟨g0, g1, g2, g3, g4, g5, g6⟩, -⟩ := row7 ((B7.block wr.heap.size (by simp)).trans HC.out.2.2.2.2.1); have HZ := Lib.hid (HC.out.2.2.2.2.2.trans (B7.mono HC.out.2.2.2.2.2.size)); clear B7)
            | (go_at_call 21; (with_reducible refine (HC.out.2.1 HY.out _ w1 (w.heap.size + 1) (w.heap.size + 1) _ (HR.out.2.1.kept HZ.out) (by have := HS.out; have := HR.out.2.2.size; have := HZ.out.size; omega) (HR.out.2.2.trans (HZ.out.mono (by have := HS.out; have := HR.out.2.2.size; omega))) (Nat.le_refl _)).mono ?_); rintro e w8 ⟨v8, rfl, O8, B8⟩; have HZ8 := Lib.hid (And.intro O8 B8); clear O8 B8))
          go_roundw
          case rel =>
            have e1 := HC.out.2.2.1
            have e2 := HC.out.2.2.2.1
            rw [if_pos ⟨by rw [← HR.out.1]; exact h300, HY.out⟩] at e1 e2
            refine ⟨j + 1, by omega, by go_num, t + 1, by go_num, ?_⟩
            rw [e1, e2]
            exact ⟨by rw [List.length_append, ← HR.out.1]; rfl, HZ8.out.1, HZ8.out.2⟩
          case measure => simp [intOf]; omega
      · have h300' : ¬ ((t : Int) < 300) := by omega
        go_wp2
        go_roundw
        case rel =>
          have e1 := HC.out.2.2.1
          have e2 := HC.out.2.2.2.1
          rw [if_neg (fun h => h300 (by have := h.1; rw [← HR.out.1] at this; exact this))] at e1 e2
          refine ⟨j + 1, by omega, by go_num, t, rfl, ?_⟩
          rw [e1, e2]
          exact ⟨HR.out.1, HR.out.2.1.kept HC.out.2.2.2.2.2, HR.out.2.2.trans (HC.out.2.2.2.2.2.mono (by have := HS.out; have := HR.out.2.2.size; omega))⟩
        case measure => simp [intOf]; omega
    · obtain rfl : j = n := by omega
      have hall : l.take j = l := List.take_of_length_le (by have := HX.out.1; omega)
      have hO := HR.out.2.1
      have hBr := HR.out.2.2
      rw [hall] at hO
      have hF := encB_len f l
      have hYF := HY0.out
      clear hall
      generalize encB f l = F at *
      obtain ⟨A3, c3, hv3, R3, hc3, hn3⟩ := hO.form
      obtain ⟨u, hu⟩ : ∃ u, u = F.length := ⟨_, rfl⟩
      rw [← hu] at hv3 hc3 hF
      subst hv3
      have cs := sumof_any A3 c3 F wr (by omega) R3
      unfold SumSaid at cs
      generalize more 0 F = sm at *
      rw [← hu] at cs
      obtain ⟨b0, hb0⟩ : ∃ b0, b0 = UInt8.ofNat sm := ⟨_, rfl⟩
      obtain ⟨b1, hb1⟩ : ∃ b1, b1 = UInt8.ofNat (sm / 256) := ⟨_, rfl⟩
      obtain ⟨b2, hb2⟩ : ∃ b2, b2 = UInt8.ofNat (sm / 65536) := ⟨_, rfl⟩
      obtain ⟨b3, hb3⟩ : ∃ b3, b3 = UInt8.ofNat (sm / 16777216) := ⟨_, rfl⟩
      rw [← hb0, ← hb1, ← hb2, ← hb3] at cs
      have HT : Hid (tailb sm = [b0, b1, b2, b3]) := by show _ = _; rw [hb0, hb1, hb2, hb3]; rfl
      clear hb0 hb1 hb2 hb3
      have HU := Lib.hid (And.intro hu (And.intro hYF (And.intro hO (And.intro hBr (And.intro hF (And.intro cs HBw.out))))))
      clear hu hYF hO hBr hF cs hc3 hn3 R3
      go_wp2_with (first
        | (go_at_call 22; (with_reducible refine HU.out.2.2.2.2.2.1.mono ?_); (rintro e w7 ⟨rfl, B7⟩; have r7 : Row4 (w7.alloc (.cells #[.int .u8 0, .int .u8 0, .int .u8 0, .int .u8 0] 54)) w7.heap.size [0, 0, 0, 0] := heap_alloc_new w7 _; have b7 : Below w.heap.size w (w7.alloc (.cells #[.int .u8 0, .int .u8 0, .int .u8 0, .int .u8 0] 54)) := (HU.out.2.2.2.2.2.2.trans (B7.mono HU.out.2.2.2.2.2.2.size)).alloc (Nat.le_trans HU.out.2.2.2.2.2.2.size B7.size) _))
        | (with_reducible refine store4 rfl (.tmp 7) (.tmp 33) rfl w7.heap.size [0, 0, 0, 0] b0 b1 b2 b3 rfl rfl r7 rfl w7.heap.size (w7.alloc (.cells #[.int .u8 0, .int .u8 0, .int .u8 0, .int .u8 0] 54)) (Below.refl _ _) (Nat.le_refl _) ?_; intro w8 R8 B8; have O8 := HU.out.2.2.1.kept ((B7.alloc B7.size (.cells #[.int .u8 0, .int .u8 0, .int .u8 0, .int .u8 0] 54)).trans (B8.mono B7.size)); have b8 : Below w.heap.size w w8 := b7.trans (B8.mono (Nat.le_trans HU.out.2.2.2.2.2.2.size B7.size)); have T8 := row4_rd R8; rw [← HT.out] at T8; have l8 : F.length + (tailb sm).length ≤ 1000000 := (by rw [← HU.out.1, length_tailb]; have := HU.out.2.2.2.2.1; omega); have s8 : w.heap.size + 1 ≤ w8.heap.size := (by have := HS.out; have := HU.out.2.2.2.1.size; have := B7.size; have := B8.size; simp at this; omega); have HZ8 := Lib.hid (And.intro O8 (And.intro b8 (And.intro T8 (And.intro l8 s8)))); clear O8 b8 T8 l8 s8 r7 b7)
        | (at_builtin; (with_reducible refine Coin.app_any rfl (.tmp 34) (.tmp 35) rfl (w.heap.size + 1) (.slice A3 u c3) F (tailb sm) (some ⟨w7.heap.size, 0, none⟩) 4 4 _ rfl rfl HZ8.out.1 HZ8.out.2.2.1 rfl (fun h => by cases h) HZ8.out.2.2.2.1 HZ8.out.2.2.2.2 w.heap.size w HZ8.out.2.1 (Nat.le_succ _) ?_); (intro v9 w9 O9 B9 G9; have HZ9 := Lib.hid (And.intro O9 B9); clear O9 B9 G9)))
      go_ret
      have hO9 := HZ9.out.1
      rw [← HU.out.2.1] at hO9
      exact ⟨v9, rfl, own_mono hO9 (Nat.le_succ _), HZ9.out.2⟩
end Go.Proofs.Ytecfblkagbdjlaa.Msg
