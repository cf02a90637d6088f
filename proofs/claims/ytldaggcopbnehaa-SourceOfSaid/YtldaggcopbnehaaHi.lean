/- Contract: a history by acts. -/
import Derived.Test.YtldaggcopbnehaaCh
import Derived.Deep.DeepCutAuto
import Derived.Maps.AppendAt
namespace Go.Proofs.Ytldaggcopbnehaa.Chg
open Coin
open Go.ChangeShapes Go.WideShapes Go.ChangeAt Go.RowKit

structure HAct where
  P : Nat
  Via : Nat
  Metric : Nat
  Seq : Nat
  Later : Nat
instance : Inhabited HAct := ⟨⟨0, 0, 0, 0, 0⟩⟩
structure HAt (w : World) (b o : Nat) (d : HAct) : Prop where
  k0 : w.cell? ⟨b, o, none⟩ = some (.int .u8 (d.P : Int))
  k1 : w.cell? ⟨b, o + 1, none⟩ = some (.int .u8 (d.Via : Int))
  k2 : w.cell? ⟨b, o + 2, none⟩ = some (.int .u8 (d.Metric : Int))
  k3 : w.cell? ⟨b, o + 3, none⟩ = some (.int .u8 (d.Seq : Int))
  k4 : w.cell? ⟨b, o + 4, none⟩ = some (.int .u8 (d.Later : Int))
  hP : d.P < 256
  hV : d.Via < 256
  hM : d.Metric < 256
  hS : d.Seq < 256
  hL : d.Later < 256
theorem HAt.keep {w w' : World} {b o : Nat} {d : HAct} (h : HAt w b o d) (hb : w'.heap[b]? = w.heap[b]?) : HAt w' b o d := by
  have k : ∀ i, w'.cell? ⟨b, i, none⟩ = w.cell? ⟨b, i, none⟩ := fun i => World.cell?_of_block (a := ⟨b, i, none⟩) hb
  exact ⟨(k _).trans h.k0, (k _).trans h.k1, (k _).trans h.k2, (k _).trans h.k3, (k _).trans h.k4, h.hP, h.hV, h.hM, h.hS, h.hL⟩
def HSl (w : World) (A : Option Addr) (ds : List HAct) : Prop := ∀ k (hk : k < ds.length), ∃ b o, A = some ⟨b, o, none⟩ ∧ b < w.heap.size ∧ HAt w b (o + k * 5) ds[k]
theorem HSl.below {w w' : World} {A : Option Addr} {ds : List HAct} (h : HSl w A ds) (B : Below w.heap.size w w') : HSl w' A ds := fun k hk => by
  obtain ⟨b, o, e, hlt, hc⟩ := h k hk
  exact ⟨b, o, e, Nat.lt_of_lt_of_le hlt B.size, hc.keep (B.block b hlt)⟩
def tsum (ds : List HAct) (k : Nat) : Nat := ((ds.take k).map fun d => d.Later % 4).sum
theorem tsum_succ (ds : List HAct) (k : Nat) (hk : k < ds.length) : tsum ds (k + 1) = tsum ds k + ds[k].Later % 4 := by
  unfold tsum
  rw [List.take_succ_eq_append_getElem hk, List.map_append, List.sum_append]
  simp only [List.map_cons, List.map_nil, List.sum_cons, List.sum_nil]
  omega
theorem heap_new0 (w : World) (x c : Obj) : ((w.alloc x).alloc c).heap[w.heap.size]? = some x :=
  (heap_alloc_old _ _ (Array.getElem?_eq_some_iff.1 (heap_alloc_new w x)).1).trans (heap_alloc_new w x)
theorem heap_new1 (w : World) (x c : Obj) : ((w.alloc x).alloc c).heap[w.heap.size + 1]? = some c := by
  have h := heap_alloc_new (w.alloc x) c
  have e : (w.alloc x).heap.size = w.heap.size + 1 := by simp
  rw [e] at h; exact h
theorem row2 {w : World} {b : Nat} {t : TypeId} {x0 x1 : Value} (h : w.heap[b]? = some (.cells #[x0, x1] t (0, 0))) : w.cell? ⟨b, 0, none⟩ = some x0 ∧ w.cell? ⟨b, 1, none⟩ = some x1 :=
  ⟨cell_of_row w b 0 _ t (0, 0) h, cell_of_row w b 1 _ t (0, 0) h⟩
theorem own_keep {w w' : World} {B n : Nat} {v : Value} {xs : List Value} (h : w.ownsRow B 79 8 v n xs) (hb : Below w.heap.size w w') : w'.ownsRow B 79 8 v n xs :=
  World.ownsRow.kept (row := none) h ⟨hb.os, hb.tape, hb.output, hb.size, fun k hk _ => hb.block k hk⟩ (by cases v.ownBlock <;> simp)
theorem flat_snoc (cs : List C) (c : C) : (cs ++ [c]).flatMap C.cl = cs.flatMap C.cl ++ c.cl := by simp
theorem tsum_le (ds : List HAct) (k : Nat) : tsum ds k ≤ 3 * k := by
  induction k with
  | zero => simp [tsum]
  | succ k ih =>
    by_cases hk : k < ds.length
    · rw [tsum_succ ds k hk]; have := Nat.mod_lt (ds[k]).Later (show 0 < 4 by decide); omega
    · have : tsum ds (k + 1) = tsum ds k := by unfold tsum; rw [List.take_of_length_le (by omega), List.take_of_length_le (by omega)]
      omega
def HistOK (ds : List HAct) (cs : List C) : Prop := ∀ j (hj : j < cs.length), cs[j].no = j + 1 ∧ cs[j].time = tsum ds (j + 1) ∧ cs[j].Ok
theorem HistOK.snoc {ds : List HAct} {cs : List C} (h : HistOK ds cs) {c : C} (h1 : c.no = cs.length + 1) (h2 : c.time = tsum ds (cs.length + 1)) (h3 : c.Ok) : HistOK ds (cs ++ [c]) := fun j hj => by
  rw [List.length_append, List.length_singleton] at hj
  by_cases hlt : j < cs.length
  · rw [List.getElem_append_left hlt]; exact h j hlt
  · obtain rfl : j = cs.length := by omega
    rw [List.getElem_append_right (Nat.le_refl _)]
    simp only [Nat.sub_self, List.getElem_singleton]
    exact ⟨h1, h2, h3⟩
theorem HistOK.bounds {ds : List HAct} {cs : List C} (h : HistOK ds cs) : ∀ c ∈ cs, c.metric < 65535 ∧ c.seq < 65536 := fun c hc => by
  obtain ⟨j, hj, rfl⟩ := List.getElem_of_mem hc
  have := (h j hj).2.2
  exact ⟨this.2.2.2.2.2.1, this.2.2.2.2.2.2.1⟩
theorem cells_eight (W : World) (t b : Nat) (hb : b = W.heap.size) (x0 x1 x2 x3 x4 x5 x6 x7 : Value) : ∀ j u, [x0, x1, x2, x3, x4, x5, x6, x7][j]? = some u → (W.alloc (.cells #[x0, x1, x2, x3, x4, x5, x6, x7] t)).cell? ((⟨b, 0, none⟩ : Addr).add j) = some u := by
  intro j u hj
  subst hb
  rw [zero_add', cell_of_row _ _ j _ t (0, 0) (heap_alloc_new W _), ← hj]
  simp
theorem info34 : (Try.prog.info? 79).map (fun i => (i.zero, i.size, i.bytes)) = some (some (.agg #[.int .u64 0, .int .u64 0, .bool false, .int .u32 0, .int .u8 0, .int .i64 0, .int .u16 0, .int .u16 0]), 8, 48) := by kernel_rfl
theorem app_ch {w : World} {ops : Array Oper} {rest : List Oper} {o : Oper} {a : Act} {Q : Exit → Act → World → Prop} (hgd : o.guard = none) (s x : Operand)
    (ho : o.op = .call { callee := .builtin .append, args := #[s, x], argTypes := #[54, 54] }) (B : Nat) (v : Value) (cs : List C) (c : C) (b : Nat)
    (hs : a.eval s = v) (hx : a.eval x = .slice (some ⟨b, 0, none⟩) 1 1) (hown : ChOwn w B v cs) (hc : ∀ j u, c.cl[j]? = some u → w.cell? ((⟨b, 0, none⟩ : Addr).add j) = some u) (hlen : cs.length ≤ 100) (hB : B ≤ w.heap.size) (B0 : Nat) (w0 : World) (hb : Below B0 w0 w) (hB0 : B0 ≤ B)
    (h : ∀ v' w', ChOwn w' B v' (cs ++ [c]) → Below B0 w0 w' → wpList Try.prog ops Q rest (a.put o.dst v') w') : wpList Try.prog ops Q (o :: rest) a w := by
  obtain ⟨i0, hi, hz0, hz1, hz2⟩ := info_parts info34
  refine wpList_append_own_at w hgd s x 54 ho B 79 i0 _ 8 48 Try.underlying54 hi hz0 hz1 hz2 rfl (by decide) v cs.length (cs.flatMap C.cl) hs hown ⟨b, 0, none⟩ 1 1 c.cl hx rfl hc (by intro u hu; simp [C.cl] at hu; rcases hu with rfl | rfl | rfl | rfl | rfl | rfl | rfl | rfl <;> rfl) (by unfold maxLen; omega) (by omega) hB ?_
  intro v' w' h1 h2 _ _
  refine h v' w' ?_ (hb.grown h2 (Nat.le_trans hB0 hB) fun k hk => Nat.le_trans hB0 (World.ownsRow.lt hown k hk).1)
  unfold ChOwn
  rw [flat_snoc, List.length_append]
  exact h1
theorem cells_ch (W : World) (c : C) (b : Nat) (hb : b = W.heap.size) (xs : Array Value) (he : xs = c.cl.toArray) : ∀ j u, c.cl[j]? = some u → (W.alloc (.cells xs 79)).cell? ((⟨b, 0, none⟩ : Addr).add j) = some u := by
  intro j u hj
  subst hb he
  rw [zero_add', cell_of_row _ _ j _ 79 (0, 0) (heap_alloc_new W _), ← hj]
  simp
set_option maxRecDepth 8000 in
set_option maxHeartbeats 8000000 in
theorem history_any (w : World) (A : Option Addr) (n cp : Nat) (ds : List HAct) (hn : n = ds.length) (h60 : n ≤ 60) (h : HSl w A ds) :
    Calls Try.prog 19 #[.slice A n cp] w fun e w' => ∃ v cs, e = .returned v ∧ ChOwn w' w.heap.size v cs ∧ cs.length = n ∧ HistOK ds cs ∧ Below w.heap.size w w' := by
  obtain ⟨i0, hi, hz0, hz1, hz2⟩ := info_parts info34
  have HI := Lib.hid (And.intro hi (And.intro hz0 (And.intro hz1 hz2)))
  have HN := Lib.hid hn
  have HH := Lib.hid h
  clear hi hz0 hz1 hz2 hn h
  go_enter Try.func19, Try.ntmps19
  go_wp2
  go_loopw [3, 4, 5] (fun v t i wr => ∃ k : Nat, k ≤ n ∧ i = .int .i64 k ∧ t = .int .u64 (tsum ds k : Nat) ∧ ∃ cs : List C, Hid (cs.length = k ∧ ChOwn wr w.heap.size v cs ∧ HistOK ds cs) ∧ Below w.heap.size w wr) (fun _ _ i _ => n - (intOf i).toNat)
  case atStart => exact ⟨0, by omega, rfl, rfl, [], ⟨rfl, World.ownsRow_nil w w.heap.size 79 8, fun j hj => by cases hj⟩, Below.refl _ _⟩
  case round =>
    obtain ⟨k, hk, rfl, rfl, cs, HO, B⟩ := hrel
    by_cases hlt : k < n
    · have hkd : k < ds.length := by rw [← HN.out]; exact hlt
      obtain ⟨b0, o0, ea, hb0, hd⟩ := (HH.out.below B) k hkd
      subst ea
      have ht := tsum_succ ds k hkd
      have htl := tsum_le ds (k + 1)
      generalize ds[k] = d at *
      obtain ⟨k0, k1, k2, k3, k4, dP, dV, dM, dS, dL⟩ := hd
      obtain ⟨A3, c3, hv3, hsl, hob⟩ := HO.out.2.1.form
      rw [HO.out.1] at hv3
      subst hv3
      obtain ⟨a, pk, ha, hpk, hpr, c12⟩ := prefix_any d.P dP
      obtain ⟨T0, hT0⟩ : ∃ T, T = tsum ds k := ⟨_, rfl⟩
      obtain ⟨T1, hT1⟩ : ∃ T, T = tsum ds (k + 1) := ⟨_, rfl⟩
      rw [← hT0, ← hT1] at ht
      rw [← hT1] at htl
      rw [← hT0]
      have hT : (T0 : Int) + (d.Later : Int) % 4 = T1 := by omega
      have HT1 := Lib.hid hT1
      obtain ⟨v, hv, hv16⟩ : ∃ v : Nat, (d.Via : Int) % 16 = v ∧ v < 16 := ⟨d.Via % 16, by omega, by omega⟩
      obtain ⟨m7, hm7, hm7l⟩ : ∃ v : Nat, (d.Metric : Int) * 7 = v ∧ v < 65535 := ⟨d.Metric * 7, by omega, by omega⟩
      obtain ⟨s4, hs4, hs4l⟩ : ∃ v : Nat, IntKind.u16.wrap ((d.Seq : Int) % 4 + 65534) = v ∧ v < 65536 := ⟨(d.Seq % 4 + 65534) % 65536, by rw [IntKind.wrap_u16]; omega, by omega⟩
      clear ht hT0 hT1
      have HEG : Hid ((#[.int .u64 ((k : Int) + 1), .int .u64 (T1 : Nat), .bool true, .int .u32 (a : Nat), .int .u8 (pk : Nat), .int .i64 0, .int .u16 0, .int .u16 0] : Array Value) = (C.cl ⟨k + 1, T1, true, a, pk, 0, 0, 0⟩).toArray) := (show _ = _ by simp [C.cl])
      have HEN : Hid ((#[.int .u64 ((k : Int) + 1), .int .u64 (T1 : Nat), .bool false, .int .u32 (a : Nat), .int .u8 (pk : Nat), .int .i64 (v : Nat), .int .u16 (m7 : Nat), .int .u16 (s4 : Nat)] : Array Value) = (C.cl ⟨k + 1, T1, false, a, pk, v, m7, s4⟩).toArray) := (show _ = _ by simp [C.cl])
      go_upto_region 15 with (first
        | (go_at_call 9; (with_reducible refine (c12 _).mono ?_); rintro e w2 ⟨rfl, B2⟩; clear c12; have S2 : wr.heap.size + 1 + 1 ≤ w2.heap.size := (by have := B2.size; simp at this; omega); have X2 := (B2.block wr.heap.size (by simp; omega)).trans (heap_new0 wr (.cells #[.int .u8 (d.P : Int), .int .u8 (d.Via : Int), .int .u8 (d.Metric : Int), .int .u8 (d.Seq : Int), .int .u8 (d.Later : Int)] 77) (.cells #[.int .u64 ((k : Int) + 1), .int .u64 (T1 : Nat), .bool false, .int .u32 0, .int .u8 0, .int .i64 0, .int .u16 0, .int .u16 0] 79)); have C2 := (B2.block (wr.heap.size + 1) (by simp)).trans (heap_new1 wr (.cells #[.int .u8 (d.P : Int), .int .u8 (d.Via : Int), .int .u8 (d.Metric : Int), .int .u8 (d.Seq : Int), .int .u8 (d.Later : Int)] 77) (.cells #[.int .u64 ((k : Int) + 1), .int .u64 (T1 : Nat), .bool false, .int .u32 0, .int .u8 0, .int .i64 0, .int .u16 0, .int .u16 0] 79)); have BW2 : Below wr.heap.size wr w2 := (((Below.refl _ _).alloc (Nat.le_refl _) _).alloc (by simp) _).trans (B2.mono (by simp; omega)); have Bp := (Below.refl w2.heap.size w2).alloc (Nat.le_refl _) (.cells #[.int .u32 (a : Nat), .int .u8 (pk : Nat)] 34); have c14 := row_any (w2.alloc (.cells #[.int .u32 (a : Nat), .int .u8 (pk : Nat)] 34)) A3 k c3 cs HO.out.1.symm (by omega) ((hsl.below BW2).below Bp) HO.out.2.2.bounds a pk; unfold RowSaid RowV at c14; clear B2)
        | (go_at_call 29; (with_reducible refine c14.mono ?_); rintro e w3 ⟨h, a1, n1, v1, m1, s1, q1, q2, b, rfl, B3⟩; clear c14; have S3 : w2.heap.size + 1 ≤ w3.heap.size := (by have := B3.size; simpa using this); have X3 := (B3.block wr.heap.size (by simp; omega)).trans ((Bp.block wr.heap.size (by omega)).trans X2); have C3 := (B3.block (wr.heap.size + 1) (by simp; omega)).trans ((Bp.block (wr.heap.size + 1) (by omega)).trans C2); have P3 := (B3.block w2.heap.size (by simp)).trans (heap_alloc_new w2 (.cells #[.int .u32 (a : Nat), .int .u8 (pk : Nat)] 34)); have BW3 := BW2.trans ((Bp.trans (B3.mono (by simp))).mono BW2.size); obtain ⟨x0, x1, x2, x3, x4⟩ := row5 X3; obtain ⟨y0, y1, y2, y3, y4, y5, y6, y7⟩ := row8 C3; obtain ⟨z0, z1⟩ := row2 P3; have fc := fun i => frozen_of_row w3 (wr.heap.size + 1) i _ 79 C3; have l0 : wr.heap.size < w3.heap.size := (by omega); have l1 : wr.heap.size + 1 < w3.heap.size := (by omega); have l2 : w2.heap.size < w3.heap.size := (by omega); clear B3 X3 C3 P3 Bp X2 C2 hsl))
      all_goals
        go_wp2_with (first
          | (at_builtin; with_reducible refine app_ch rfl (.tmp 77) (.tmp 79) rfl w.heap.size (.slice A3 k c3) cs ⟨k + 1, T1, true, a, pk, 0, 0, 0⟩ (w3.heap.size + 1) rfl rfl (HO.out.2.1.kept (by (repeat (first | (with_reducible refine Below.alloc ?_ (by simp; omega) _) | (with_reducible refine Below.setCell ?_ (Nat.le_succ _) _))); exact BW3)) (cells_ch _ _ _ (by simp) _ HEG.out) (by rw [HO.out.1]; omega) (by have := B.size; simp; omega) w.heap.size w (B.trans (Below.mono (B := wr.heap.size) (by (repeat (first | (with_reducible refine Below.alloc ?_ (by simp; omega) _) | (with_reducible refine Below.setCell ?_ (Nat.le_succ _) _))); exact BW3) B.size)) (Nat.le_refl _) ?_; intro v4 w4 own4 B4; have HZ := Lib.hid (And.intro own4 B4); clear own4 B4)
          | (at_builtin; with_reducible refine app_ch rfl (.tmp 77) (.tmp 79) rfl w.heap.size (.slice A3 k c3) cs ⟨k + 1, T1, false, a, pk, v, m7, s4⟩ (w3.heap.size + 1) rfl rfl (HO.out.2.1.kept (by (repeat (first | (with_reducible refine Below.alloc ?_ (by simp; omega) _) | (with_reducible refine Below.setCell ?_ (Nat.le_succ _) _))); exact BW3)) (cells_ch _ _ _ (by simp) _ HEN.out) (by rw [HO.out.1]; omega) (by have := B.size; simp; omega) w.heap.size w (B.trans (Below.mono (B := wr.heap.size) (by (repeat (first | (with_reducible refine Below.alloc ?_ (by simp; omega) _) | (with_reducible refine Below.setCell ?_ (Nat.le_succ _) _))); exact BW3) B.size)) (Nat.le_refl _) ?_; intro v4 w4 own4 B4; have HZ := Lib.hid (And.intro own4 B4); clear own4 B4))
        go_roundw
        case rel =>
          first
          | exact ⟨k + 1, by omega, by go_num, by rw [HT1.out], cs ++ [⟨k + 1, T1, true, a, pk, 0, 0, 0⟩], ⟨by rw [List.length_append, HO.out.1]; rfl, HZ.out.1, HO.out.2.2.snoc (by show k + 1 = _; rw [HO.out.1]) (by show T1 = _; rw [HO.out.1]; exact HT1.out) ⟨show k + 1 < 18446744073709551616 by omega, show T1 < 18446744073709551616 by omega, ha, show pk ≤ 32 by omega, show (0 : Nat) < 16 by decide, show (0 : Nat) < 65535 by decide, show (0 : Nat) < 65536 by decide, hpr, fun _ => ⟨rfl, rfl, rfl⟩⟩⟩, HZ.out.2⟩
          | exact ⟨k + 1, by omega, by go_num, by rw [HT1.out], cs ++ [⟨k + 1, T1, false, a, pk, v, m7, s4⟩], ⟨by rw [List.length_append, HO.out.1]; rfl, HZ.out.1, HO.out.2.2.snoc (by show k + 1 = _; rw [HO.out.1]) (by show T1 = _; rw [HO.out.1]; exact HT1.out) ⟨show k + 1 < 18446744073709551616 by omega, show T1 < 18446744073709551616 by omega, ha, show pk ≤ 32 by omega, hv16, hm7l, hs4l, hpr, fun h => by cases h⟩⟩, HZ.out.2⟩
        case measure => simp [intOf]; omega
    · obtain rfl : k = n := by omega
      go_wp2
      go_ret
      exact ⟨_, cs, rfl, HO.out.2.1, HO.out.1, HO.out.2.2, B⟩
end Go.Proofs.Ytldaggcopbnehaa.Chg
