/- Contract: a history by acts, exactly. -/
import Derived.Test.YtldaggcopbnehaaKr
import Derived.Test.YtldaggcopbnehaaHi
namespace Go.Proofs.Ytldaggcopbnehaa.Tab
open Pre Ser Chg Coin
open Go.ChangeShapes Go.WideShapes Go.ChangeAt Go.RowKit

/-- What goes away was there. -/
structure HistGood (ds : List HAct) (cs : List C) : Prop where
  ok : HistOK ds cs
  gone : ∀ j (hj : j < cs.length), cs[j].gone = true → (rowOf (cs.take j) cs[j].addr cs[j].len).ok = true ∧ (rowOf (cs.take j) cs[j].addr cs[j].len).r.has = true
theorem HistGood.nil (ds : List HAct) : HistGood ds [] := ⟨fun j hj => (by cases hj), fun j hj => (by cases hj)⟩
theorem HistGood.snoc {ds : List HAct} {cs : List C} (h : HistGood ds cs) {c : C} (h1 : c.no = cs.length + 1) (h2 : c.time = tsum ds (cs.length + 1)) (h3 : c.Ok) (h4 : c.gone = true → (rowOf cs c.addr c.len).ok = true ∧ (rowOf cs c.addr c.len).r.has = true) : HistGood ds (cs ++ [c]) :=
  ⟨h.ok.snoc h1 h2 h3, fun j hj => by
    rw [List.length_append, List.length_singleton] at hj
    by_cases hlt : j < cs.length
    · rw [List.getElem_append_left hlt, List.take_append_of_le_length (by omega)]
      exact h.gone j hlt
    · obtain rfl : j = cs.length := by omega
      rw [List.getElem_append_right (Nat.le_refl _), List.take_left' rfl]
      simp only [Nat.sub_self, List.getElem_singleton]
      exact h4⟩
theorem HistGood.bounds {ds : List HAct} {cs : List C} (h : HistGood ds cs) : ∀ c ∈ cs, c.metric < 65535 ∧ c.seq < 65536 := h.ok.bounds
theorem row_said (w : World) (A : Option Addr) (n cp : Nat) (cs : List C) (hn : n = cs.length) (h60 : n ≤ 60) (hc : ChSl w A cs) (hok : ∀ c ∈ cs, c.metric < 65535 ∧ c.seq < 65536) (a k : Nat) (b h : Bool) (hb : b = (rowOf cs a k).ok ∧ h = (rowOf cs a k).r.has) :
    Calls Try.prog 29 #[.slice A n cp, .agg #[.int .u32 (a : Int), .int .u8 (k : Int)]] w fun e w' => (∃ a1 n1 v1 m1 s1 q1 q2, e = .returned (.tuple #[.agg #[.int .u32 (a : Int), .int .u8 (k : Int), .bool h, .int .u32 a1, .int .u8 n1, .int .i64 v1, .int .u16 m1, .int .u16 s1, .int .u16 q1, .int .u16 q2], .bool b])) ∧ Below w.heap.size w w' := by
  refine (row_exact w A n cp cs hn h60 hc hok a k).mono ?_
  rintro e w' ⟨rfl, B⟩
  have hf := rowOf_fit a k cs (fun c hc => (hok c hc).2)
  obtain ⟨rfl, rfl⟩ := hb
  refine ⟨⟨if (rowOf cs a k).seen then (a : Int) else 0, if (rowOf cs a k).seen then (k : Int) else 0, (rowOf cs a k).r.via, (rowOf cs a k).r.metric, (rowOf cs a k).r.seq, (rowOf cs a k).r.ms, (rowOf cs a k).r.mm, ?_⟩, B⟩
  unfold S.cl
  rw [hf.addr, hf.len]
set_option maxRecDepth 8000 in
set_option maxHeartbeats 8000000 in
theorem history_exact (w : World) (A : Option Addr) (n cp : Nat) (ds : List HAct) (hn : n = ds.length) (h60 : n ≤ 60) (h : HSl w A ds) :
    Calls Try.prog 19 #[.slice A n cp] w fun e w' => ∃ v cs, e = .returned v ∧ ChOwn w' w.heap.size v cs ∧ cs.length = n ∧ HistGood ds cs ∧ Below w.heap.size w w' := by
  obtain ⟨i0, hi, hz0, hz1, hz2⟩ := info_parts info34
  have HI := Lib.hid (And.intro hi (And.intro hz0 (And.intro hz1 hz2)))
  have HN := Lib.hid hn
  have HH := Lib.hid h
  clear hi hz0 hz1 hz2 hn h
  go_enter Try.func19, Try.ntmps19
  go_wp2
  go_loopw [3, 4, 5] (fun v t i wr => ∃ k : Nat, k ≤ n ∧ i = .int .i64 k ∧ t = .int .u64 (tsum ds k : Nat) ∧ ∃ cs : List C, Hid (cs.length = k ∧ ChOwn wr w.heap.size v cs ∧ HistGood ds cs) ∧ Below w.heap.size w wr) (fun _ _ i _ => n - (intOf i).toNat)
  case atStart => exact ⟨0, by omega, rfl, rfl, [], ⟨rfl, World.ownsRow_nil w w.heap.size 79 8, HistGood.nil ds⟩, Below.refl _ _⟩
  case round =>
    obtain ⟨k, hk, rfl, rfl, cs, HO, B⟩ := hrel
    by_cases hlt : k < n
    · have hkd : k < ds.length := by rw [← HN.out]; exact hlt
      obtain ⟨b0, o0, ea, hb0, hd⟩ := (HH.out.below B) k hkd
      subst ea
      have ht := tsum_succ ds k hkd
      have htl := tsum_le ds (k + 1)
      generalize ds[k] = d at *
      obtain ⟨k0, k1, k2, k3, k4, dP, dV, dM, dS, dL⟩ := hd
      obtain ⟨A3, c3, hv3, hsl, hob⟩ := HO.out.2.1.form
      rw [HO.out.1] at hv3
      subst hv3
      obtain ⟨a, pk, ha, hpk, hpr, c12⟩ := prefix_any d.P dP
      obtain ⟨T0, hT0⟩ : ∃ T, T = tsum ds k := ⟨_, rfl⟩
      obtain ⟨T1, hT1⟩ : ∃ T, T = tsum ds (k + 1) := ⟨_, rfl⟩
      rw [← hT0, ← hT1] at ht
      rw [← hT1] at htl
      rw [← hT0]
      have hT : (T0 : Int) + (d.Later : Int) % 4 = T1 := by omega
      have HT1 := Lib.hid hT1
      obtain ⟨v, hv, hv16⟩ : ∃ v : Nat, (d.Via : Int) % 16 = v ∧ v < 16 := ⟨d.Via % 16, by omega, by omega⟩
      obtain ⟨m7, hm7, hm7l⟩ : ∃ v : Nat, (d.Metric : Int) * 7 = v ∧ v < 65535 := ⟨d.Metric * 7, by omega, by omega⟩
      obtain ⟨s4, hs4, hs4l⟩ : ∃ v : Nat, IntKind.u16.wrap ((d.Seq : Int) % 4 + 65534) = v ∧ v < 65536 := ⟨(d.Seq % 4 + 65534) % 65536, by rw [IntKind.wrap_u16]; omega, by omega⟩
      clear ht hT0 hT1
      have HEG : Hid ((#[.int .u64 ((k : Int) + 1), .int .u64 (T1 : Nat), .bool true, .int .u32 (a : Nat), .int .u8 (pk : Nat), .int .i64 0, .int .u16 0, .int .u16 0] : Array Value) = (C.cl ⟨k + 1, T1, true, a, pk, 0, 0, 0⟩).toArray) := (show _ = _ by simp [C.cl])
      have HEN : Hid ((#[.int .u64 ((k : Int) + 1), .int .u64 (T1 : Nat), .bool false, .int .u32 (a : Nat), .int .u8 (pk : Nat), .int .i64 (v : Nat), .int .u16 (m7 : Nat), .int .u16 (s4 : Nat)] : Array Value) = (C.cl ⟨k + 1, T1, false, a, pk, v, m7, s4⟩).toArray) := (show _ = _ by simp [C.cl])
      obtain ⟨b, h, hbh⟩ : ∃ b h, b = (rowOf cs a pk).ok ∧ h = (rowOf cs a pk).r.has := ⟨_, _, rfl, rfl⟩
      have HB := Lib.hid hbh
      clear hbh
      cases b <;> cases h
      all_goals
        go_upto_region 15 with (first
          | (go_at_call 9; (with_reducible refine (c12 _).mono ?_); rintro e w2 ⟨rfl, B2⟩; clear c12; have S2 : wr.heap.size + 1 + 1 ≤ w2.heap.size := (by have := B2.size; simp at this; omega); have X2 := (B2.block wr.heap.size (by simp; omega)).trans (heap_new0 wr (.cells #[.int .u8 (d.P : Int), .int .u8 (d.Via : Int), .int .u8 (d.Metric : Int), .int .u8 (d.Seq : Int), .int .u8 (d.Later : Int)] 77) (.cells #[.int .u64 ((k : Int) + 1), .int .u64 (T1 : Nat), .bool false, .int .u32 0, .int .u8 0, .int .i64 0, .int .u16 0, .int .u16 0] 79)); have C2 := (B2.block (wr.heap.size + 1) (by simp)).trans (heap_new1 wr (.cells #[.int .u8 (d.P : Int), .int .u8 (d.Via : Int), .int .u8 (d.Metric : Int), .int .u8 (d.Seq : Int), .int .u8 (d.Later : Int)] 77) (.cells #[.int .u64 ((k : Int) + 1), .int .u64 (T1 : Nat), .bool false, .int .u32 0, .int .u8 0, .int .i64 0, .int .u16 0, .int .u16 0] 79)); have BW2 : Below wr.heap.size wr w2 := (((Below.refl _ _).alloc (Nat.le_refl _) _).alloc (by simp) _).trans (B2.mono (by simp; omega)); have Bp := (Below.refl w2.heap.size w2).alloc (Nat.le_refl _) (.cells #[.int .u32 (a : Nat), .int .u8 (pk : Nat)] 34); have c14 := row_said (w2.alloc (.cells #[.int .u32 (a : Nat), .int .u8 (pk : Nat)] 34)) A3 k c3 cs HO.out.1.symm (by omega) ((hsl.below BW2).below Bp) HO.out.2.2.1.bounds a pk _ _ HB.out; clear B2)
          | (go_at_call 29; (with_reducible refine c14.mono ?_); rintro e w3 ⟨⟨a1, n1, v1, m1, s1, q1, q2, rfl⟩, B3⟩; clear c14; have S3 : w2.heap.size + 1 ≤ w3.heap.size := (by have := B3.size; simpa using this); have X3 := (B3.block wr.heap.size (by simp; omega)).trans ((Bp.block wr.heap.size (by omega)).trans X2); have C3 := (B3.block (wr.heap.size + 1) (by simp; omega)).trans ((Bp.block (wr.heap.size + 1) (by omega)).trans C2); have P3 := (B3.block w2.heap.size (by simp)).trans (heap_alloc_new w2 (.cells #[.int .u32 (a : Nat), .int .u8 (pk : Nat)] 34)); have BW3 := BW2.trans ((Bp.trans (B3.mono (by simp))).mono BW2.size); obtain ⟨x0, x1, x2, x3, x4⟩ := row5 X3; obtain ⟨y0, y1, y2, y3, y4, y5, y6, y7⟩ := row8 C3; obtain ⟨z0, z1⟩ := row2 P3; have fc := fun i => frozen_of_row w3 (wr.heap.size + 1) i _ 79 C3; have l0 : wr.heap.size < w3.heap.size := (by omega); have l1 : wr.heap.size + 1 < w3.heap.size := (by omega); have l2 : w2.heap.size < w3.heap.size := (by omega); clear B3 X3 C3 P3 Bp X2 C2 hsl))
        all_goals
          go_wp2_with (first
            | (at_builtin; with_reducible refine app_ch rfl (.tmp 77) (.tmp 79) rfl w.heap.size (.slice A3 k c3) cs ⟨k + 1, T1, true, a, pk, 0, 0, 0⟩ (w3.heap.size + 1) rfl rfl (HO.out.2.1.kept (by (repeat (first | (with_reducible refine Below.alloc ?_ (by simp; omega) _) | (with_reducible refine Below.setCell ?_ (Nat.le_succ _) _))); exact BW3)) (cells_ch _ _ _ (by simp) _ HEG.out) (by rw [HO.out.1]; omega) (by have := B.size; simp; omega) w.heap.size w (B.trans (Below.mono (B := wr.heap.size) (by (repeat (first | (with_reducible refine Below.alloc ?_ (by simp; omega) _) | (with_reducible refine Below.setCell ?_ (Nat.le_succ _) _))); exact BW3) B.size)) (Nat.le_refl _) ?_; intro v4 w4 own4 B4; have HZ := Lib.hid (And.intro own4 B4); clear own4 B4)
            | (at_builtin; with_reducible refine app_ch rfl (.tmp 77) (.tmp 79) rfl w.heap.size (.slice A3 k c3) cs ⟨k + 1, T1, false, a, pk, v, m7, s4⟩ (w3.heap.size + 1) rfl rfl (HO.out.2.1.kept (by (repeat (first | (with_reducible refine Below.alloc ?_ (by simp; omega) _) | (with_reducible refine Below.setCell ?_ (Nat.le_succ _) _))); exact BW3)) (cells_ch _ _ _ (by simp) _ HEN.out) (by rw [HO.out.1]; omega) (by have := B.size; simp; omega) w.heap.size w (B.trans (Below.mono (B := wr.heap.size) (by (repeat (first | (with_reducible refine Below.alloc ?_ (by simp; omega) _) | (with_reducible refine Below.setCell ?_ (Nat.le_succ _) _))); exact BW3) B.size)) (Nat.le_refl _) ?_; intro v4 w4 own4 B4; have HZ := Lib.hid (And.intro own4 B4); clear own4 B4))
          go_roundw
          case rel =>
            first
            | exact ⟨k + 1, by omega, by go_num, by rw [HT1.out], cs ++ [⟨k + 1, T1, true, a, pk, 0, 0, 0⟩], ⟨by rw [List.length_append, HO.out.1]; rfl, HZ.out.1, HO.out.2.2.snoc (by show k + 1 = _; rw [HO.out.1]) (by show T1 = _; rw [HO.out.1]; exact HT1.out) ⟨show k + 1 < 18446744073709551616 by omega, show T1 < 18446744073709551616 by omega, ha, show pk ≤ 32 by omega, show (0 : Nat) < 16 by decide, show (0 : Nat) < 65535 by decide, show (0 : Nat) < 65536 by decide, hpr, fun _ => ⟨rfl, rfl, rfl⟩⟩ (fun _ => ⟨HB.out.1.symm, HB.out.2.symm⟩)⟩, HZ.out.2⟩
            | exact ⟨k + 1, by omega, by go_num, by rw [HT1.out], cs ++ [⟨k + 1, T1, false, a, pk, v, m7, s4⟩], ⟨by rw [List.length_append, HO.out.1]; rfl, HZ.out.1, HO.out.2.2.snoc (by show k + 1 = _; rw [HO.out.1]) (by show T1 = _; rw [HO.out.1]; exact HT1.out) ⟨show k + 1 < 18446744073709551616 by omega, show T1 < 18446744073709551616 by omega, ha, show pk ≤ 32 by omega, hv16, hm7l, hs4l, hpr, fun h => by cases h⟩ (fun h => by cases h)⟩, HZ.out.2⟩
          case measure => simp [intOf]; omega
    · obtain rfl : k = n := by omega
      go_wp2
      go_ret
      exact ⟨_, cs, rfl, HO.out.2.1, HO.out.1, HO.out.2.2, B⟩
end Go.Proofs.Ytldaggcopbnehaa.Tab
