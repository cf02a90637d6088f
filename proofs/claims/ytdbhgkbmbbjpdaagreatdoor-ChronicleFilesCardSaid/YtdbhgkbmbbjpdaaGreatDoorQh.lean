/- The law on files, walked. -/
import Derived.Test.YtdbhgkbmbbjpdaaGreatDoorQi
import Derived.Lib.SlBytesConst
namespace Go.Proofs.YtdbhgkbmbbjpdaaGreatDoor.Chr
open Go.ChangeShapes Go.WideShapes Go.ChangeAt Go.RowKit
open Shf (S str)
open Coin (Rd Row Own sz coin got Pur takeV endV CoinSaid CoinOwn)
open Frm (pack err size kind cnt body noItem itemV OneSaid)
set_option maxRecDepth 8000
set_option linter.unusedVariables false
open Shf (Tag Ext Rep M RdN get Fine)
variable {lo : Nat}
structure PZ (w wr : World) (T : Nat → Tag) (p q : Nat) (m : M) (c : CD) (mo : Nat) (l : S) (k : Nat) : Prop where
  R : Rep wr T q m
  C : CAt w.heap.size wr T p q c
  G : CG c m
  F : FZ c mo l
  K : Kq w.heap.size w (fun _ => .none) wr T
  room : m.room = 1048576
  sum : m.named + m.gone ≤ 500 + 500 * k
  done : m.done ≤ 100 + 20 * k
theorem PZ.below {w W W' : World} {T : Nat → Tag} {p q : Nat} {m : M} {c : CD} {mo : Nat} {l : S} {k : Nat} (h : PZ w W T p q m c mo l k) (B : Below W.heap.size W W') : PZ w W' T p q m c mo l k :=
  ⟨h.R.below B, h.C.keep (kp_below B T), h.G, h.F, h.K.trans (kq_kp (kp_below B T)), h.room, h.sum, h.done⟩
theorem PZ.cn {w W : World} {T : Nat → Tag} {p q : Nat} {m : M} {c : CD} {mo : Nat} {l : S} {k : Nat} (h : PZ w W T p q m c mo l k) : CN c := ⟨by have := h.F.hd.1; have := h.F.nv; have := h.F.len; omega, by have := h.F.hd.2.1; omega⟩
theorem FZ.small {c : CD} {m : M} {mo : Nat} {l : S} (h : FZ c mo l) (g : CG c m) : c.Small := by
  have hl := h.len
  refine ⟨by have := h.hd.1; omega, by have := h.hd.2.2.1; omega, by have := h.nv; omega, fun d hd => ?_⟩
  have h1 := h.fs d hd
  have h2 := h.sz d hd
  unfold VolD.next at h1
  obtain ⟨i, hi, rfl⟩ := List.getElem_of_mem hd
  have h3 := g.nos i _ (List.getElem?_eq_getElem hi)
  have := h.hd.1
  have := h.nv
  exact ⟨by omega, by omega, by omega, by omega⟩
theorem vx_at {w : World} {VA : Option Addr} {n cp : Nat} {xs : List Value} {gl : Option Nat} {vols : List VolD} (O : OwnO w 60 4 (.slice VA n cp) n xs gl) (X : VX vols xs n) (hn : n = vols.length) (i : Nat) (hi : i < vols.length) :
    ∃ vg vo, VA = some ⟨vg, vo, none⟩ ∧ gl = some vg ∧ vg < w.heap.size ∧ w.cell? ⟨vg, vo + i * 4, none⟩ = some (.int .u64 (vols[i].no : Int)) ∧ w.cell? ⟨vg, vo + i * 4 + 1, none⟩ = some (.int .u64 (vols[i].first : Int)) ∧ w.cell? ⟨vg, vo + i * 4 + 2, none⟩ = some (.slice none 0 0) ∧ w.cell? ⟨vg, vo + i * 4 + 3, none⟩ = some (.int .i64 (vols[i].size : Int)) := by
  have hl : xs.length = n * 4 := O.1
  obtain ⟨x0, x1, x3, x2⟩ := X i hi
  have x2 := x2 (by omega)
  have f : ∀ r u, r < 4 → xs[i * 4 + r]? = some u → ∃ g off cap, (.slice VA n cp : Value) = .slice (some ⟨g, off, none⟩) n cap ∧ gl = some g ∧ w.cell? ⟨g, off + (i * 4 + r), none⟩ = some u := fun r u hr hu => by
    obtain ⟨hlt, hue⟩ := List.getElem?_eq_some_iff.1 hu
    obtain ⟨g, off, cap, e1, e2, e3, -⟩ := O.cell (i * 4 + r) hlt
    exact ⟨g, off, cap, e1, e2, by rw [e3, hue]⟩
  obtain ⟨g, off, cap, e1, e2, e3⟩ := f 0 _ (by decide) x0
  injection e1 with e1 _ _
  subst e1
  have h : ∀ r u, r < 4 → xs[i * 4 + r]? = some u → w.cell? ⟨g, off + i * 4 + r, none⟩ = some u := fun r u hr hu => by
    obtain ⟨g', off', cap', e1', e2', e3'⟩ := f r u hr hu
    injection e1' with e1' _ _
    injection e1' with e1'
    injection e1' with a b _
    subst a b
    rw [Nat.add_assoc]; exact e3'
  exact ⟨g, off, rfl, e2, (by have := block_lt_of_cell e3; exact this), h 0 _ (by decide) x0, h 1 _ (by decide) x1, h 2 _ (by decide) x2, h 3 _ (by decide) x3⟩
def InB (w : World) (a : Option Addr) (len cap : Nat) (bs : S) : Prop := len = bs.length ∧ len ≤ cap ∧ ∀ j (hj : j < bs.length), ∃ x, a = some x ∧ (x.add j).block < w.heap.size ∧ w.cell? (x.add j) = some (.int .u8 ((bs[j]).toNat : Int))
theorem str_b1 : str (bName 1) = ⟨#[98, 46, 49]⟩ := by decide +kernel
theorem b1_len : (bName 1).length ≤ 1000 := by decide +kernel
theorem mark98 (w : World) : ∃ wb wc g, wb = w.alloc (.cells #[.int .u8 98] 5) ∧ g = w.heap.size ∧ (convert 30 30 (.slice (some ⟨g, 0, none⟩) 1 1)).run Tryz.prog wb = .ok (.slice (some ⟨g, 0, none⟩) 1 1) wc ∧ Below w.heap.size w wb ∧ Below w.heap.size w wc ∧ Rd wc wc.heap.size (some ⟨g, 0, none⟩) [98] := by
  have hn := heap_alloc_new w (.cells #[.int .u8 98] 5 (1, 2))
  refine ⟨_, _, _, rfl, rfl, Lib.run_convert_bytes_const w 30 5 #[.int .u8 98] 1 1 Tryz.underlying30 Tryz.underlying5, (Below.refl _ _).alloc (Nat.le_refl _) _, (Below.refl _ _).alloc (Nat.le_refl _) _, ?_⟩
  refine fun _ => ⟨_, rfl, (by show w.heap.size < (w.heap.push _).size; rw [Array.size_push]; exact Nat.lt_succ_self _), fun j hj => ?_⟩
  have hj : j < 1 := hj
  obtain rfl : j = 0 := by omega
  rw [Coin.zero_add']
  exact (cell_of_row _ w.heap.size 0 _ 5 _ hn).trans rfl
theorem conv98 (w : World) (T : Nat → Tag) (hT : T w.heap.size = .none) : (convert 30 30 (.slice (some ⟨w.heap.size, 0, none⟩) 1 1)).run Tryz.prog (w.alloc (.cells #[.int .u8 98] 5)) = .ok (.slice (some ⟨w.heap.size, 0, none⟩) 1 1) (w.alloc (.cells #[.int .u8 98] 5 (1, 2))) ∧ AAt (w.alloc (.cells #[.int .u8 98] 5 (1, 2))) T (some ⟨w.heap.size, 0, none⟩) 1 [98] := by
  have hn := heap_alloc_new w (.cells #[.int .u8 98] 5 (1, 2))
  refine ⟨Lib.run_convert_bytes_const w 30 5 #[.int .u8 98] 1 1 Tryz.underlying30 Tryz.underlying5, ?_⟩
  unfold AAt RdN
  refine ⟨(fun h => by cases h), ⟨fun h0 => ⟨_, rfl, fun j hj => ?_⟩, fun h0 ad e => ?_⟩, fun h0 ad e => ?_⟩
  · have hj : j < 1 := hj
    obtain rfl : j = 0 := by omega
    rw [Coin.zero_add', cell_of_row _ w.heap.size 0 _ 5 _ hn]
    rfl
  · injection e with e
    subst e
    exact ⟨hT, by show w.heap.size < (w.heap.push _).size; rw [Array.size_push]; exact Nat.lt_succ_self _⟩
  · injection e with e
    subst e
    refine ⟨fun cur x => ?_, fun cur x => ?_, fun cur x => ?_⟩ <;>
    · have x2 := hn.symm.trans x
      injection x2 with x2
      injection x2 with _ x2 _
      exact absurd x2 (by decide)
theorem PZ.app {w W : World} {T : Nat → Tag} {p q : Nat} {m : M} {c : CD} {mo : Nat} {l : S} {k : Nat} (h : PZ w W T p q m c mo l k) (hk : k ≤ 40) (hl : l.length < 40) (b : UInt8) (A : Option Addr) (n cp : Nat) (hn : n = (byL b.toNat).length) (hP : AAt W T A cp (byL b.toNat)) :
    Calls Tryz.prog 21 #[.pointer (some ⟨p, 0, none⟩), .int .u8 107, .slice A n cp] W fun e w' => ∃ v m' c' T', e = .returned v ∧ PZ w w' T' p q m' c' mo (l ++ [b]) (k + 1) := by
  have hb := byL_len b.toNat
  have hpl : (pack 107 (byL b.toNat)).length ≤ 100 := by
    rw [Frm.length_pack]
    have := Coin.sz_le (byL b.toNat).length
    omega
  have hnv := h.F.nv
  have hh := h.F.hd
  have hs := h.sum
  have hd := h.done
  refine (append_cg W T p q m c h.R h.C h.G (by omega) (by omega) (h.F.small h.G) (by rw [h.F.next]; omega) (by omega) (nms_mono (h.G.nms h.cn) (by omega)) 107 A n cp (byL b.toNat) hn hP (by omega) (by rw [h.room]; omega)).mono ?_
  rintro e w' ⟨m', c', T', rfl, G5, O5, R5, C5, K5, r5, s5, d5, -⟩
  exact ⟨_, m', c', T', rfl, R5, C5, G5, h.F.more h.G b O5 rfl hl, h.K.trans K5, r5.trans h.room, by omega, by omega⟩
set_option maxHeartbeats 8000000 in
set_option maxRecDepth 100000 in
theorem lawfiles_any (w : World) (mo : Nat) (hmo : mo < 256) (a : Option Addr) (len cap : Nat) (bs : S) (hz : InB w a len cap bs) (fo : Nat) (hfo : fo < 256) :
    Calls Tryz.prog 6 #[.int .u8 (mo : Int), .slice a len cap, .int .u8 (fo : Int)] w fun e w' => e = .returned (.bool true) ∧ Below w.heap.size w w' := by
  have HZ := Lib.hid hz
  clear hz
  by_cases hbig : 40 < len
  · have hd : decide ((40 : Int) < (len : Int)) = true := by simp; omega
    go_enter Tryz.func6, Tryz.ntmps6
    go_wp2_with fail
    refine (awake_any _).mono ?_
    rintro e wa ⟨rfl, hb⟩
    go_wp2_with (go_at_call 9; (with_reducible refine (awake_any _).mono ?_); rintro e w' ⟨rfl, hb2⟩)
    go_ret
    exact ⟨rfl, hb.trans (hb2.mono hb.size)⟩
  have hd : decide ((40 : Int) < (len : Int)) = false := by simp; omega
  have HL := Lib.hid (show len ≤ 40 by omega)
  obtain ⟨mo2, hm2⟩ : ∃ m, m = 20 + mo := ⟨_, rfl⟩
  have hm3 : (20 : Int) + (mo : Int) = (mo2 : Int) := by omega
  have hw4 : IntKind.i64.wrap (mo : Int) = mo := by rw [IntKind.wrap_i64]; omega
  have hw5 : IntKind.i64.wrap (mo2 : Int) = mo2 := by rw [IntKind.wrap_i64]; omega
  have HM2 := Lib.hid (show 20 ≤ mo2 ∧ mo2 < 276 by omega)
  clear hm2 hmo hbig
  go_enter Tryz.func6, Tryz.ntmps6
  go_upto_region 3 with (go_at_call 9; (with_reducible refine (awake_any _).mono ?_); (rintro e w1 ⟨rfl, B1⟩; have HB1 := Lib.hid B1; clear B1))
  have c10 := Shf.new_rep w1 1048576 (by decide)
  go_upto_region 4 with (go_at_call 10; (with_reducible refine c10.mono ?_); (rintro e w2 ⟨q, T, rfl, R1, B1, hT1⟩; have H1 := Lib.hid (And.intro R1 (kq_new (lo := w.heap.size) (HB1.out.trans (B1.mono HB1.out.size)) (fun k hk => Nat.le_trans HB1.out.size (hT1 k hk)))); clear R1 B1 hT1 c10))
  have c11 : Calls Tryz.prog 11 #[.pointer (some ⟨q, 0, none⟩), .int .i64 (mo2 : Int)] w2 _ := first_any (lo := w.heap.size) w2 T q (Shf.M.new 1048576) mo2 H1.out.1 (new_on _) rfl rfl rfl (by show ((0 : Int) + 0 + 50) ≤ 1048576; decide) (by have : (Shf.M.new 1048576).done = 0 := rfl; omega) H1.out.2.size
  go_upto_region 6 with (go_at_call 11; (with_reducible refine c11.mono ?_); (rintro e w3 ⟨p, m2, T2, rfl, g2, R2, C2, K2, hp2, r2, s2, d2, n2⟩; have H2 : Hid (PZ w w3 T2 p q m2 ⟨mo2, 1, 0, 0, [], [], false⟩ mo2 [] 0) := Lib.hid ⟨R2, C2, g2, fz_new mo2 HM2.out.1, H1.out.2.trans K2, r2.trans rfl, by have : (Shf.M.new 1048576).named = 0 := rfl; omega, by have : (Shf.M.new 1048576).done = 0 := rfl; omega⟩; clear g2 R2 C2 K2 hp2 r2 s2 d2 n2 c11))
  clear hm3 hw4 hw5 hd H1
  go_wp2
  go_loopw [11] (fun v11 wr => ∃ j : Nat, j ≤ len ∧ v11 = .int .i64 (j : Int) ∧ Hid (∃ T m c, PZ w wr T p q m c mo2 (bs.take j) j)) (fun v11 _ => len - (intOf v11).toNat)
  case atStart => exact ⟨0, Nat.zero_le _, rfl, ⟨_, _, _, H2.out⟩⟩
  case round =>
    clear H2
    obtain ⟨j, hj, rfl, HJ⟩ := hrel
    rcases Nat.lt_or_ge j len with hlt | hge
    · have hlt' : (j : Int) < len := by omega
      have hjb : j < bs.length := by have := HZ.out.1; omega
      obtain ⟨T, m, c, HP0⟩ := HJ.out
      have HP := Lib.hid HP0
      clear HP0 HJ
      obtain ⟨x, rfl, hxb, hx0⟩ := HZ.out.2.2 j hjb
      have hx := ((below_kq HP.out.K).cell hxb).trans hx0
      have hsn : bs.take (j + 1) = bs.take j ++ [bs[j]] := List.take_succ_eq_append_getElem hjb
      have HSN := Lib.hid hsn
      obtain ⟨bv, hbv⟩ : ∃ b, b = bs[j] := ⟨_, rfl⟩
      rw [← hbv] at hx HSN
      have hb8 : bv.toNat < 256 := bv.toNat_lt
      have HTL := Lib.hid (show (bs.take j).length = j by rw [List.length_take]; omega)
      clear hsn hbv hxb hx0
      have hw1 : IntKind.i64.wrap ((j : Int) + 1) = ((j + 1 : Nat) : Int) := by rw [IntKind.wrap_i64]; have := HL.out; omega
      go_wp2_with (first
        | (go_at_call 22; (with_reducible refine (by_any _ bv.toNat hb8).mono ?_); rintro e w4 ⟨g4, k4, rfl, hk4, R4, hg4, B4⟩; have HP4 := Lib.hid (HP.out.below B4); have HAA := Lib.hid (And.intro (pat_own (T := T) (B := wr.heap.size) (n := k4) (c := k4) (by rw [hk4]; exact R4.own hg4 (by have := byL_len bv.toNat; omega)) (fun i hi => rep_old HP.out.R hi) hk4).aat hk4); clear R4 hk4 hg4 B4)
        | (go_at_call 21; (with_reducible refine (HP4.out.app (by have := HL.out; omega) (by rw [HTL.out]; have := HL.out; omega) bv (some ⟨g4, 0, none⟩) k4 k4 HAA.out.2 HAA.out.1).mono ?_); rintro e w5 ⟨v5, m5, c5, T5, rfl, P5⟩; have HP5 := Lib.hid P5; clear P5))
      go_roundw
      case rel => exact ⟨j + 1, hlt, by go_num, ⟨_, _, _, by rw [HSN.out]; exact HP5.out⟩⟩
      case measure => simp [intOf]; omega
    · obtain rfl : j = len := by omega
      obtain ⟨T, m, c, HP0⟩ := HJ.out
      rw [List.take_of_length_le (by rw [← HZ.out.1]; exact Nat.le_refl _)] at HP0
      have HP := Lib.hid HP0
      clear HP0 HJ
      obtain ⟨gz, hgz⟩ : ∃ g : Nat, g = wr.heap.size := ⟨_, rfl⟩
      have HGZ := Lib.hid hgz
      clear hgz
      have c24 := vols_any wr T p q c HP.out.C (by have := HP.out.F.nv; have := HL.out; have := HZ.out.1; omega)
      obtain ⟨n, hn⟩ : ∃ n, n = c.vols.length := ⟨_, rfl⟩
      rw [← hn] at c24
      have HN := Lib.hid hn
      clear hn
      go_upto_region 14 with (go_at_call 24; (with_reducible refine c24.mono ?_); rintro e w6 ⟨VA, vcp, rfl, xs, gl, O6, X6, hgl, B6⟩; have H6 := Lib.hid (And.intro O6 (And.intro X6 (And.intro hgl (And.intro B6 (HP.out.below B6))))); clear O6 X6 hgl B6 c24)
      have hv0 : volsZ 0 c.vols 0 = 0 := by unfold volsZ; simp
      have hf0 := first_zero HP.out.F HP.out.G
      go_loopw [13, 14, 15] (fun v13 v14 v15 wr => ∃ i fi acc : Nat, i ≤ n ∧ v13 = .int .u64 (fi : Int) ∧ v14 = .int .i64 (acc : Int) ∧ v15 = .int .i64 (i : Int) ∧ Hid (fi = firstAt c i ∧ acc = volsZ 0 c.vols i ∧ Below w6.heap.size w6 wr)) (fun _ _ v15 _ => n - (intOf v15).toNat)
      case atStart => exact ⟨0, 1, 0, Nat.zero_le _, rfl, rfl, rfl, ⟨hf0.symm, hv0.symm, Below.refl _ _⟩⟩
      case round =>
        clear hv0 hf0
        obtain ⟨i, fi, acc, hi, rfl, rfl, rfl, HB⟩ := hrel
        rcases Nat.lt_or_ge i n with hlt | hge2
        · have hlt' : (i : Int) < n := by omega
          have hil : i < c.vols.length := by rw [← HN.out]; exact hlt
          obtain ⟨vg, vo, rfl, hgl, hvg, y0, y1, y2, y3⟩ := vx_at H6.out.1 H6.out.2.1 HN.out i hil
          have hd := List.getElem?_eq_getElem hil
          obtain ⟨d, hdd⟩ : ∃ d, d = c.vols[i] := ⟨_, rfl⟩
          rw [← hdd] at y0 y1 y3 hd
          have hmem : d ∈ c.vols := List.mem_of_getElem? hd
          have hno := HP.out.G.nos i d hd
          have hfa : firstAt c i = d.first := by unfold firstAt; rw [hd]
          have hfn := first_next HP.out.G hd
          have hvz := volsZ_next 0 c.vols i hil
          rw [← hdd] at hvz
          have hsz := (volIs_of (HP.out.G.vo d hmem).2.1).2
          have hfile := (HP.out.G.vo d hmem).1
          obtain ⟨no1, hno1⟩ : ∃ x, x = i + 1 := ⟨_, rfl⟩
          have hdn : d.no = no1 := by have := HP.out.F.hd.1; omega
          obtain ⟨sz9, hsz9⟩ : ∃ x, x = d.size := ⟨_, rfl⟩
          have hfi : d.first = fi := by rw [HB.out.1, hfa]
          rw [hdn] at y0 hfile
          rw [hfi] at y1
          rw [← hsz9] at y3 hsz hvz
          have hn40 : n ≤ 40 := by have := HP.out.F.nv; have := HL.out; have := HZ.out.1; have := HN.out; omega
          have hszb : sz9 ≤ 5000 := by have := HP.out.F.sz d hmem; have := HP.out.F.len; omega
          have hacc : acc ≤ 41 * 5000 := by
            have := volsZ_le 0 c.vols 5000 (fun x hx => by have := HP.out.F.sz x hx; have := HP.out.F.len; omega) i
            rw [HB.out.2.1]; omega
          have CNM : Hid (∀ W, Calls Tryz.prog 26 #[.int .u64 (no1 : Int)] W fun e w' => e = .returned (.string (str (vName no1))) ∧ W = w') := Lib.hid fun W => name_any W no1 (by omega)
          have CR : Hid (∀ W, Below w6.heap.size w6 W → Calls Tryz.prog 25 #[.pointer (some ⟨q, 0, none⟩), .string (str (vName no1))] W fun e w' => ∃ A c, e = .returned (.tuple #[.slice A sz9 c, .int .i64 0]) ∧ Rd w' w'.heap.size A (volB d) ∧ (A = none → c = 0) ∧ Below W.heap.size W w') := Lib.hid fun W hW => by
            rw [hsz]; exact read_on W T q m (H6.out.2.2.2.2.below hW).R HP.out.G.on (vName no1) (volB d) hfile (vn_len no1 (by omega))
          have HIT : Hid (∀ y, Below w6.heap.size w6 y → y.cell? ⟨vg, vo + i * 4, none⟩ = some (.int .u64 (no1 : Int)) ∧ y.cell? ⟨vg, vo + i * 4 + 1, none⟩ = some (.int .u64 (fi : Int)) ∧ y.cell? ⟨vg, vo + i * 4 + 2, none⟩ = some (.slice none 0 0) ∧ y.cell? ⟨vg, vo + i * 4 + 3, none⟩ = some (.int .i64 (sz9 : Int))) := Lib.hid fun y hy =>
            ⟨(hy.cell (p := ⟨vg, vo + i * 4, none⟩) hvg).trans y0, (hy.cell (p := ⟨vg, vo + i * 4 + 1, none⟩) hvg).trans y1, (hy.cell (p := ⟨vg, vo + i * 4 + 2, none⟩) hvg).trans y2, (hy.cell (p := ⟨vg, vo + i * 4 + 3, none⟩) hvg).trans y3⟩
          have hw1 : IntKind.i64.wrap ((i : Int) + 1) = (no1 : Int) := by rw [IntKind.wrap_i64]; omega
          have hw2 : IntKind.u64.wrap (no1 : Int) = (no1 : Int) := by rw [IntKind.wrap_u64]; omega
          have hw3 : IntKind.i64.wrap ((acc : Int) + (sz9 : Int)) = ((acc + sz9 : Nat) : Int) := by rw [IntKind.wrap_i64]; omega
          have HD := Lib.hid (And.intro hmem (And.intro hd (And.intro hfn (And.intro hvz (And.intro hsz (And.intro hdn (And.intro hfi (And.intro hno1 (And.intro hn40 (And.intro hszb hacc))))))))))
          clear hmem hd hfn hvz hsz hdn hfi hno1 hn40 hszb hacc hfa hno hfile hdd hsz9 y0 y1 y2 y3 hgl
          obtain ⟨u0, u1, u2, u3⟩ := HIT.out _ HB.out.2.2
          go_upto_region 20 with (first
            | (go_at_call 26; (with_reducible refine (CNM.out _).mono ?_); rintro e w7 ⟨rfl, rfl⟩)
            | (go_at_call 25; (with_reducible refine (CR.out _ HB.out.2.2).mono ?_); rintro e w8 ⟨A7, c7, rfl, hrd, hnn, B8⟩; have H8 := Lib.hid (And.intro hrd (And.intro hnn (And.intro B8 (HB.out.2.2.trans (B8.mono HB.out.2.2.size))))); clear hrd hnn B8 u0 u1 u2 u3; obtain ⟨u0, u1, u2, u3⟩ := HIT.out _ H8.out.2.2.2))
          have hlist : (.cells (([no1, fi].map fun x : Nat => Value.int .u64 (x : Int)).toArray) 42 (0, 0) : Obj) = .cells #[.int .u64 (no1 : Int), .int .u64 (fi : Int)] 42 (0, 0) := rfl
          have hrow9 := heap_alloc_new w8 (.cells #[.int .u64 (no1 : Int), .int .u64 (fi : Int)] 42)
          have B8a := (Below.refl w8.heap.size w8).alloc (Nat.le_refl _) (.cells #[.int .u64 (no1 : Int), .int .u64 (fi : Int)] 42)
          have hfib : fi ≤ 1000 := by have := HP.out.F.fs d HD.out.1; unfold VolD.next at this; have := HP.out.F.len; have := HD.out.2.2.2.2.2.2.1; omega
          have c28 := rcoins_any (w8.alloc (.cells #[.int .u64 (no1 : Int), .int .u64 (fi : Int)] 42)) w8.heap.size 2 [no1, fi] (hlist ▸ hrow9) (fun x hx => by
            have h1 := HD.out.2.2.2.2.2.2.2
            simp only [List.mem_cons, List.not_mem_nil, or_false] at hx
            rcases hx with rfl | rfl <;> omega) rfl (by decide)
          have HB8a := Lib.hid B8a
          clear hlist hrow9 B8a hfib
          obtain ⟨cl9, hcl9⟩ : ∃ x, x = coins [no1, fi] := ⟨_, rfl⟩
          rw [← hcl9] at c28
          have HCL := Lib.hid (And.intro hcl9 (show titleB no1 fi = pack 84 cl9 by rw [hcl9]; rfl))
          clear hcl9
          go_wp2_with (first
            | (go_at_call 28; ((with_reducible refine c28.mono ?_); rintro e w9 ⟨v9, rfl, O9, B9⟩; clear c28; obtain ⟨A9, c9, hv9, hrd9, -, hnn9⟩ := O9.form; have c27 : Calls Tryz.prog 27 #[.int .u8 84, .slice A9 cl9.length c9] w9 (CoinOwn w9 (pack 84 cl9)) := Frm.rpack_any 84 A9 c9 cl9 w9 (by rw [HCL.out.1]; have := coins_len [no1, fi]; simp only [List.length_cons, List.length_nil] at this; omega) hrd9 hnn9; obtain ⟨m9, hm9⟩ : ∃ x, x = cl9.length := ⟨_, rfl⟩; rw [← hm9] at c27 hv9; subst hv9; have HB9 := Lib.hid (H8.out.2.2.2.trans ((HB8a.out.trans (B9.mono HB8a.out.size)).mono H8.out.2.2.2.size)); have HB89 := Lib.hid (HB8a.out.trans (B9.mono HB8a.out.size)); clear O9 B9 hrd9 hnn9 hm9))
            | (go_at_call 27; (with_reducible refine c27.mono ?_); rintro e w10 ⟨v10, rfl, O10, B10⟩; clear c27; have H10 := Lib.hid (And.intro O10 B10); clear O10 B10))
          clear u0 u1 u2 u3 hw1 hw2 hw3
          obtain ⟨K, hK⟩ : ∃ K, K = d.its.length := ⟨_, rfl⟩
          have HS0 : Hid (Own w10 w9.heap.size v10 (wantJ d 0) ∧ Below w9.heap.size w9 w10) := Lib.hid ⟨by rw [want_zero, HD.out.2.2.2.2.2.1, HD.out.2.2.2.2.2.2.1, HCL.out.2]; exact H10.out.1, H10.out.2⟩
          have HKK := Lib.hid hK
          clear hK
          go_loopw [13, 18] (fun v13 v18 wk => ∃ jj fj : Nat, jj ≤ K ∧ v13 = .int .u64 (fj : Int) ∧ Hid (fj = fi + jj ∧ Own wk w9.heap.size v18 (wantJ d jj) ∧ Below w9.heap.size w9 wk)) (fun v13 _ _ => fi + K + 1 - (intOf v13).toNat)
          case atStart => exact ⟨0, fi, Nat.zero_le _, rfl, ⟨rfl, HS0.out⟩⟩
          case round =>
            clear HS0
            obtain ⟨jj, fj, hjj, rfl, HI⟩ := hrel
            obtain ⟨A18, c18, hv18, hrd18, -, -⟩ := HI.out.2.1.form
            have HRD18 := Lib.hid hrd18
            clear hrd18
            obtain ⟨ml, hml⟩ : ∃ x, x = (wantJ d jj).length := ⟨_, rfl⟩
            rw [← hml] at hv18
            subst hv18
            have hdf : d.first = fi := HD.out.2.2.2.2.2.2.1
            have hd1 : 1 ≤ fi := by rw [← hdf]; exact (HP.out.G.vo d HD.out.1).2.2
            have hnxl := HP.out.F.fs d HD.out.1
            unfold VolD.next at hnxl
            rw [← HKK.out, hdf] at hnxl
            have hfjv := HI.out.1
            have hlb := HZ.out.1
            have hl40 := HL.out
            rcases Nat.lt_or_ge jj K with hjK | hjK
            · have hpre := HP.out.F.pre d HD.out.1 jj (by rw [← HKK.out]; exact hjK)
              have hmlt : ml < mo2 := by rw [hml]; exact hpre
              obtain ⟨ix, hix⟩ : ∃ x, x = fj - 1 := ⟨_, rfl⟩
              have hixl : ix < bs.length := by omega
              obtain ⟨x, hax, hxb, hx0⟩ := HZ.out.2.2 ix hixl
              obtain ⟨bv, hbv⟩ : ∃ b, b = bs[ix] := ⟨_, rfl⟩
              rw [← hbv] at hx0
              have hwn := HP.out.F.want_next HP.out.G HD.out.1 (j := jj) (by rw [← HKK.out]; exact hjK) bv (by rw [hdf, show fi - 1 + jj = ix by omega, List.getElem?_eq_getElem hixl, hbv])
              have Bk : Below w.heap.size w wr := (below_kq H6.out.2.2.2.2.K).trans ((HB9.out.trans (HI.out.2.2.mono HB9.out.size)).mono (below_kq H6.out.2.2.2.2.K).size)
              have hx := (Bk.cell hxb).trans hx0
              have hA : (ml : Int) < (mo2 : Int) := by omega
              have hB : (fj : Int) ≤ (j : Int) := by omega
              have hC : IntKind.i64.wrap (fj : Int) = (fj : Int) := by rw [IntKind.wrap_i64]; omega
              have hD : IntKind.u64.wrap ((fj : Int) - 1) = (ix : Int) := by rw [IntKind.wrap_u64]; omega
              have hE : (ix : Int) < (j : Int) := by omega
              have hF : IntKind.u64.wrap ((fj : Int) + 1) = ((fj + 1 : Nat) : Int) := by rw [IntKind.wrap_u64]; omega
              have hb8 : bv.toNat < 256 := bv.toNat_lt
              have hwl : (wantJ d jj).length ≤ 1000 := by rw [← hml]; have := HM2.out; omega
              have HW := Lib.hid (And.intro hwn (And.intro hfjv (And.intro hjK hwl)))
              clear hwn hfjv hjK hwl hpre hmlt hml hix hixl hxb hx0 hbv Bk hdf hd1 hnxl hjj hlb hl40
              subst hax
              go_wp2_with (first
                | (go_at_call 22; (with_reducible refine (by_any _ bv.toNat hb8).mono ?_); rintro e w11 ⟨g4, k4, rfl, hk4, R4, hg4, B4⟩; have c27b : Calls Tryz.prog 27 #[.int .u8 107, .slice (some ⟨g4, 0, none⟩) k4 k4] w11 (CoinOwn w11 (pack 107 (byL bv.toNat))) := (by rw [hk4]; exact Frm.rpack_any 107 _ _ _ w11 (by have := byL_len bv.toNat; omega) R4.rd (fun h => by cases h)); have H11 := Lib.hid (And.intro (HI.out.2.1.kept B4) (HI.out.2.2.trans (B4.mono HI.out.2.2.size))); clear R4 hk4 hg4 B4)
                | (go_at_call 27; (with_reducible refine c27b.mono ?_); rintro e w12 ⟨v12, rfl, O12, B12⟩; clear c27b; obtain ⟨A12, c12, hv12, hrd12, -, hnn12⟩ := O12.form; obtain ⟨m12, hm12⟩ : ∃ y, y = (pack 107 (byL bv.toNat)).length := ⟨_, rfl⟩; rw [← hm12] at hv12; subst hv12; have H12 := Lib.hid (And.intro (And.intro hrd12 (And.intro hm12 hnn12)) (And.intro (H11.out.1.kept B12) (H11.out.2.trans (B12.mono H11.out.2.size)))); clear O12 B12 hrd12 hm12 hnn12)
                | (at_builtin; refine Coin.app_any rfl (.tmp 141) (.tmp 148) rfl w9.heap.size _ (wantJ d jj) (pack 107 (byL bv.toNat)) A12 m12 c12 w12.heap.size rfl rfl H12.out.2.1 H12.out.1.1 H12.out.1.2.1 H12.out.1.2.2 (by have := HW.out.2.2.2; rw [Frm.length_pack]; have := byL_len bv.toNat; have := Coin.sz_le (byL bv.toNat).length; omega) H12.out.2.2.size w9.heap.size w9 H12.out.2.2 (Nat.le_refl _) ?_; intro v13 w13 O13 B13 _; have HZ13 := Lib.hid (And.intro O13 B13); clear O13 B13))
              go_roundw
              case rel => exact ⟨jj + 1, fj + 1, HW.out.2.2.1, by go_num, ⟨by have := HW.out.2.1; omega, by rw [HW.out.1]; exact HZ13.out.1, HZ13.out.2⟩⟩
              case measure => have h1 := HW.out.2.1; have h2 := HW.out.2.2.1; simp [intOf]; omega
            · have hje : jj = K := by omega
              have hwf : wantJ d jj = volB d := by rw [hje, HKK.out]; exact want_full d
              have HB8r := Lib.hid (HB89.out.trans (HI.out.2.2.mono HB89.out.size))
              have HB6r := Lib.hid (HB9.out.trans (HI.out.2.2.mono HB9.out.size))
              have hszl := HD.out.2.2.2.2.1
              obtain ⟨sv, hsv⟩ : ∃ x, x = str (volB d) := ⟨_, rfl⟩
              obtain ⟨nm, hnm⟩ : ∃ x, x = str (vName no1) := ⟨_, rfl⟩
              obtain ⟨dn, hdn⟩ : ∃ x, x = str (dec no1) := ⟨_, rfl⟩
              have hn99 : no1 < 100 := by have := HD.out.2.2.2.2.2.2.2; omega
              have HCV1 : Hid (∀ y, Below wr.heap.size wr y → (convert 30 9 (.slice A7 sz9 c7)).run Tryz.prog y = .ok (.string sv) y) := Lib.hid fun y hy => by
                rw [hsv]; exact Coin.conv_any (H8.out.1.below (HB8r.out.trans (hy.mono HB8r.out.size)) (Nat.le_refl _)) sz9 c7 hszl
              have HCV2 : Hid (∀ y, Below wr.heap.size wr y → (convert 30 9 (.slice A18 ml c18)).run Tryz.prog y = .ok (.string sv) y) := Lib.hid fun y hy => by
                rw [hsv]; exact Coin.conv_any ((hwf ▸ HRD18.out).below hy (Nat.le_refl _)) ml c18 (by rw [hml, hwf])
              have HITr : Hid (∀ y, Below wr.heap.size wr y → y.cell? ⟨vg, vo + i * 4, none⟩ = some (.int .u64 (no1 : Int))) := Lib.hid fun y hy => (HIT.out y (HB6r.out.trans (hy.mono HB6r.out.size))).1
              rw [← hnm] at CNM
              have CDN : Hid (∀ y, Calls Tryz.prog 29 #[.int .u64 (no1 : Int)] y fun e w' => e = .returned (.string dn) ∧ Below y.heap.size y w') := Lib.hid fun y => by rw [hdn]; exact num_any y no1 hn99
              have HAD : Hid ((⟨#[118, 46]⟩ : ByteArray) ++ dn = nm ∧ 2 + dn.size ≤ 9223372036854775807) := Lib.hid ⟨by rw [hdn, hnm]; exact str_add [118, 46] (dec no1), by
                have := (dec_two ⟨no1, hn99⟩).1
                rw [hdn, show (str (dec no1)).size = (dec no1).length from rfl]
                have h2 : (dec no1).length ≤ 2 := this
                omega⟩
              have hC : IntKind.i64.wrap (fj : Int) = (fj : Int) := by rw [IntKind.wrap_i64]; omega
              have hcond : ml < mo2 → ¬ (fj : Int) ≤ (j : Int) := fun hm => by
                rcases Nat.lt_or_ge (i + 1) n with h2 | h2
                · have hil1 : i + 1 < c.vols.length := by rw [← HN.out]; exact h2
                  exfalso
                  have hlast := List.dropLast_concat_getLast (l := c.vols) (by intro e; rw [e] at hil1; simp at hil1)
                  have hmd : d ∈ c.vols.dropLast := by
                    have h3 : c.vols.dropLast[i]? = some d := by rw [List.getElem?_dropLast, if_pos (by omega)]; exact HD.out.2.1
                    exact List.mem_of_getElem? h3
                  have := HP.out.F.big _ _ hlast.symm d hmd
                  have h5 : ml = d.size := by rw [hml, hwf, ← (volIs_of (HP.out.G.vo d HD.out.1).2.1).2]
                  omega
                · have h3 : i + 1 = c.vols.length := by have := HN.out; omega
                  have h4 := HD.out.2.2.1
                  rw [h3, first_end, HP.out.F.next] at h4
                  unfold VolD.next at h4
                  rw [← HKK.out, hdf] at h4
                  omega
              have HFIN := Lib.hid (And.intro (show fj = firstAt c (i + 1) by rw [HD.out.2.2.1]; unfold VolD.next; rw [← HKK.out, hdf, hfjv, hje]) (show acc + sz9 = volsZ 0 c.vols (i + 1) by rw [HD.out.2.2.2.1, ← HB.out.2.1]))
              have hw1 : IntKind.i64.wrap ((i : Int) + 1) = ((i + 1 : Nat) : Int) := by rw [IntKind.wrap_i64]; have := HD.out.2.2.2.2.2.2.2; omega
              clear hszl hsv hnm hdn hn99 hje hwf hml hdf hd1 hnxl hfjv hlb hl40 hjj hjK
              by_cases hm : ml < mo2
              · have hA : (ml : Int) < (mo2 : Int) := by omega
                have hB := hcond hm
                clear hcond hm
                go_upto_region 24 with (fail)
                have HBW := Lib.hid ((Below.refl wr.heap.size wr).drew)
                refine wp_region_noPanic ?_
                refine wp_region_held_drew (S := fun y : World => Below wr.heap.size wr y) (by kernel_rfl) HBW.out (fun hHeld => ?_)
                generalize wr.drew = wd at *
                refine wpAnyH_take (i := 0) (oi := ⟨some 152, .move (.tmp 16), 30, "law.go:226", #[], none⟩) (v := .slice A7 sz9 c7) rfl (by kernel_rfl) (by kernel_rfl) (by kernel_rfl) (fun _ _ _ h => h) (Or.inl ⟨by rfl, fun w hSw => by go_simp⟩) (by assumption) ?_
                try simp only [Act.put, stA, stB, stC]
                refine wpAnyH_take (i := 1) (oi := ⟨some 153, .convert 30 9 (.tmp 152), 9, "law.go:226", #[⟨0, .data⟩], none⟩) (v := .string sv) rfl (by kernel_rfl) (by kernel_rfl) (by kernel_rfl) (fun _ _ _ h => h) (Or.inl ⟨by rfl, fun w hSw => by have hz := HCV1.out _ hSw; go_simp⟩) (by assumption) ?_
                try simp only [Act.put, stA, stB, stC]
                refine wpAnyH_take (i := 2) (oi := ⟨some 154, .move (.tmp 18), 30, "law.go:226", #[], none⟩) (v := .slice A18 ml c18) rfl (by kernel_rfl) (by kernel_rfl) (by kernel_rfl) (fun _ _ _ h => h) (Or.inl ⟨by rfl, fun w hSw => by go_simp⟩) (by assumption) ?_
                try simp only [Act.put, stA, stB, stC]
                refine wpAnyH_take (i := 3) (oi := ⟨some 155, .convert 30 9 (.tmp 154), 9, "law.go:226", #[⟨2, .data⟩], none⟩) (v := .string sv) rfl (by kernel_rfl) (by kernel_rfl) (by kernel_rfl) (fun _ _ _ h => h) (Or.inl ⟨by rfl, fun w hSw => by have hz := HCV2.out _ hSw; go_simp⟩) (by assumption) ?_
                try simp only [Act.put, stA, stB, stC]
                refine wpAnyH_take (i := 4) (oi := ⟨some 156, .binOp .neq 9 (.tmp 153) (.tmp 155) 9, 4, "law.go:226", #[⟨1, .data⟩, ⟨3, .data⟩], none⟩) (v := .bool false) rfl (by kernel_rfl) (by kernel_rfl) (by kernel_rfl) (fun _ _ _ h => h) (Or.inl ⟨by rfl, fun w hSw => by go_simp⟩) (by assumption) ?_
                try simp only [Act.put, stA, stB, stC]
                refine wpAnyH_take (i := 5) (oi := ⟨some 157, .move (.tmp 156), 4, "law.go:226", #[⟨4, .data⟩], none⟩) (v := .bool false) rfl (by kernel_rfl) (by kernel_rfl) (by kernel_rfl) (fun _ _ _ h => h) (Or.inl ⟨by rfl, fun w hSw => by go_simp⟩) (by assumption) ?_
                try simp only [Act.put, stA, stB, stC]
                refine wpAnyH_take (i := 6) (oi := ⟨some 158, .move (.tmp 12), 53, "law.go:226", #[⟨5, .guard⟩], some (5, false)⟩) (v := .slice (some ⟨vg, vo, none⟩) n vcp) rfl (by kernel_rfl) (by kernel_rfl) (by kernel_rfl) (fun _ _ _ h => h) (Or.inl ⟨by rfl, fun w hSw => by go_simp⟩) (by assumption) ?_
                try simp only [Act.put, stA, stB, stC]
                refine wpAnyH_take (i := 7) (oi := ⟨some 159, .move (.tmp 15), 3, "law.go:226", #[⟨5, .guard⟩], some (5, false)⟩) (v := .int .i64 (i : Int)) rfl (by kernel_rfl) (by kernel_rfl) (by kernel_rfl) (fun _ _ _ h => h) (Or.inl ⟨by rfl, fun w hSw => by go_simp⟩) (by assumption) ?_
                try simp only [Act.put, stA, stB, stC]
                refine wpAnyH_take (i := 8) (oi := ⟨some 160, .indexAddr 53 (.tmp 158) (.tmp 159), 0, "law.go:226", #[⟨6, .data⟩, ⟨7, .data⟩, ⟨5, .guard⟩], some (5, false)⟩) (v := .pointer (some ⟨vg, vo + i * 4, none⟩)) rfl (by kernel_rfl) (by kernel_rfl) (by kernel_rfl) (fun _ _ _ h => h) (Or.inl ⟨by rfl, fun w hSw => by go_simp⟩) (by assumption) ?_
                try simp only [Act.put, stA, stB, stC]
                refine wpAnyH_take (i := 9) (oi := ⟨some 161, .fieldAddr 60 (.tmp 160) 0, 0, "law.go:226", #[⟨8, .data⟩, ⟨5, .guard⟩], some (5, false)⟩) (v := .pointer (some ⟨vg, vo + i * 4, none⟩)) rfl (by kernel_rfl) (by kernel_rfl) (by kernel_rfl) (fun _ _ _ h => h) (Or.inl ⟨by rfl, fun w hSw => by go_simp⟩) (by assumption) ?_
                try simp only [Act.put, stA, stB, stC]
                refine wpAnyH_take (i := 10) (oi := ⟨some 162, .load 42 (.tmp 161), 42, "law.go:226", #[⟨9, .data⟩, ⟨5, .guard⟩], some (5, false)⟩) (v := .int .u64 (no1 : Int)) rfl (by kernel_rfl) (by kernel_rfl) (by kernel_rfl) (fun _ _ _ h => h) (Or.inl ⟨by rfl, fun w hSw => by have u0 := HITr.out _ hSw; go_simp⟩) (by assumption) ?_
                try simp only [Act.put, stA, stB, stC]
                refine wpAnyH_take (i := 12) (oi := ⟨some 164, .move (.tmp 12), 53, "law.go:226", #[⟨5, .guard⟩], some (5, false)⟩) (v := .slice (some ⟨vg, vo, none⟩) n vcp) rfl (by kernel_rfl) (by kernel_rfl) (by kernel_rfl) (fun _ _ _ h => h) (Or.inl ⟨by rfl, fun w hSw => by go_simp⟩) (by assumption) ?_
                try simp only [Act.put, stA, stB, stC]
                refine wpAnyH_take (i := 13) (oi := ⟨some 165, .move (.tmp 15), 3, "law.go:226", #[⟨5, .guard⟩], some (5, false)⟩) (v := .int .i64 (i : Int)) rfl (by kernel_rfl) (by kernel_rfl) (by kernel_rfl) (fun _ _ _ h => h) (Or.inl ⟨by rfl, fun w hSw => by go_simp⟩) (by assumption) ?_
                try simp only [Act.put, stA, stB, stC]
                refine wpAnyH_take (i := 14) (oi := ⟨some 166, .indexAddr 53 (.tmp 164) (.tmp 165), 0, "law.go:226", #[⟨12, .data⟩, ⟨13, .data⟩, ⟨5, .guard⟩], some (5, false)⟩) (v := .pointer (some ⟨vg, vo + i * 4, none⟩)) rfl (by kernel_rfl) (by kernel_rfl) (by kernel_rfl) (fun _ _ _ h => h) (Or.inl ⟨by rfl, fun w hSw => by go_simp⟩) (by assumption) ?_
                try simp only [Act.put, stA, stB, stC]
                refine wpAnyH_take (i := 15) (oi := ⟨some 167, .fieldAddr 60 (.tmp 166) 0, 0, "law.go:226", #[⟨14, .data⟩, ⟨5, .guard⟩], some (5, false)⟩) (v := .pointer (some ⟨vg, vo + i * 4, none⟩)) rfl (by kernel_rfl) (by kernel_rfl) (by kernel_rfl) (fun _ _ _ h => h) (Or.inl ⟨by rfl, fun w hSw => by go_simp⟩) (by assumption) ?_
                try simp only [Act.put, stA, stB, stC]
                refine wpAnyH_take (i := 16) (oi := ⟨some 168, .load 42 (.tmp 167), 42, "law.go:226", #[⟨15, .data⟩, ⟨5, .guard⟩], some (5, false)⟩) (v := .int .u64 (no1 : Int)) rfl (by kernel_rfl) (by kernel_rfl) (by kernel_rfl) (fun _ _ _ h => h) (Or.inl ⟨by rfl, fun w hSw => by have u0 := HITr.out _ hSw; go_simp⟩) (by assumption) ?_
                try simp only [Act.put, stA, stB, stC]
                refine wpAnyH_ready (rs := [11]) (by kernel_rfl) (by simp) ?_
                refine AllReadyH.cons (o := ⟨some 163, .call ⟨.value (.func 26), #[.tmp 162], #[42]⟩, 9, "law.go:226", #[⟨10, .data⟩, ⟨5, .chain⟩, ⟨5, .guard⟩], some (5, false)⟩) rfl (fun K hK => ?_) AllReadyH.nil
                go_simp
                refine (CNM.out wd).mono ?_
                rintro e w14 ⟨rfl, rfl⟩
                refine hK.out _ _ (hHeld) (fun hHeld => ?_)
                clear hK K
                try simp only [Act.put, stA, stB, stC]
                skip
                refine wpAnyH_ready (rs := [17]) (by kernel_rfl) (by simp) ?_
                refine AllReadyH.cons (o := ⟨some 169, .call ⟨.value (.func 29), #[.tmp 168], #[42]⟩, 9, "law.go:226", #[⟨16, .data⟩, ⟨11, .chain⟩, ⟨5, .guard⟩], some (5, false)⟩) rfl (fun K hK => ?_) AllReadyH.nil
                go_simp
                refine (CDN.out wd).mono ?_
                rintro e w15 ⟨rfl, B15⟩
                have BW := hHeld.trans (B15.mono hHeld.size)
                clear B15
                refine hK.out _ _ (BW) (fun hHeld => ?_)
                clear hK K
                try simp only [Act.put, stA, stB, stC]
                clear BW
                refine wpAnyH_take (i := 18) (oi := ⟨some 170, .binOp .add 9 (.const (.string { data := #[118, 46] })) (.tmp 169) 9, 9, "law.go:226", #[⟨17, .data⟩, ⟨5, .guard⟩], some (5, false)⟩) (v := .string nm) rfl (by kernel_rfl) (by kernel_rfl) (by kernel_rfl) (fun _ _ _ h => h) (Or.inl ⟨by rfl, fun w hSw => by obtain ⟨ha, hs⟩ := HAD.out; go_simp⟩) (by assumption) ?_
                try simp only [Act.put, stA, stB, stC]
                refine wpAnyH_take (i := 19) (oi := ⟨some 171, .binOp .neq 9 (.tmp 163) (.tmp 170) 9, 4, "law.go:226", #[⟨11, .data⟩, ⟨18, .data⟩, ⟨5, .guard⟩], some (5, false)⟩) (v := .bool false) rfl (by kernel_rfl) (by kernel_rfl) (by kernel_rfl) (fun _ _ _ h => h) (Or.inl ⟨by rfl, fun w hSw => by go_simp⟩) (by assumption) ?_
                try simp only [Act.put, stA, stB, stC]
                refine wpAnyH_take (i := 20) (oi := ⟨some 172, .pick (.tmp 157) (.const (.bool true)) (.tmp 171), 4, "law.go:226", #[⟨5, .data⟩, ⟨19, .data⟩], none⟩) (v := .bool false) rfl (by kernel_rfl) (by kernel_rfl) (by kernel_rfl) (fun _ _ _ h => h) (Or.inl ⟨by rfl, fun w hSw => by go_simp⟩) (by assumption) ?_
                try simp only [Act.put, stA, stB, stC]
                refine wpAnyH_done (by kernel_rfl) ?_ _
                try unfold NoPanic
                have HE := Lib.hid hHeld
                clear hHeld
                go_wp2
                go_roundw
                case rel => exact ⟨i + 1, fj, acc + sz9, hlt, rfl, by go_num, by go_num, ⟨HFIN.out.1, HFIN.out.2, HB6r.out.trans (HE.out.mono HB6r.out.size)⟩⟩
                case measure => simp [intOf]; omega
              · have hA : ¬ (ml : Int) < (mo2 : Int) := by omega
                clear hcond hm
                go_upto_region 24 with (fail)
                have HBW := Lib.hid ((Below.refl wr.heap.size wr).drew)
                refine wp_region_noPanic ?_
                refine wp_region_held_drew (S := fun y : World => Below wr.heap.size wr y) (by kernel_rfl) HBW.out (fun hHeld => ?_)
                generalize wr.drew = wd at *
                refine wpAnyH_take (i := 0) (oi := ⟨some 152, .move (.tmp 16), 30, "law.go:226", #[], none⟩) (v := .slice A7 sz9 c7) rfl (by kernel_rfl) (by kernel_rfl) (by kernel_rfl) (fun _ _ _ h => h) (Or.inl ⟨by rfl, fun w hSw => by go_simp⟩) (by assumption) ?_
                try simp only [Act.put, stA, stB, stC]
                refine wpAnyH_take (i := 1) (oi := ⟨some 153, .convert 30 9 (.tmp 152), 9, "law.go:226", #[⟨0, .data⟩], none⟩) (v := .string sv) rfl (by kernel_rfl) (by kernel_rfl) (by kernel_rfl) (fun _ _ _ h => h) (Or.inl ⟨by rfl, fun w hSw => by have hz := HCV1.out _ hSw; go_simp⟩) (by assumption) ?_
                try simp only [Act.put, stA, stB, stC]
                refine wpAnyH_take (i := 2) (oi := ⟨some 154, .move (.tmp 18), 30, "law.go:226", #[], none⟩) (v := .slice A18 ml c18) rfl (by kernel_rfl) (by kernel_rfl) (by kernel_rfl) (fun _ _ _ h => h) (Or.inl ⟨by rfl, fun w hSw => by go_simp⟩) (by assumption) ?_
                try simp only [Act.put, stA, stB, stC]
                refine wpAnyH_take (i := 3) (oi := ⟨some 155, .convert 30 9 (.tmp 154), 9, "law.go:226", #[⟨2, .data⟩], none⟩) (v := .string sv) rfl (by kernel_rfl) (by kernel_rfl) (by kernel_rfl) (fun _ _ _ h => h) (Or.inl ⟨by rfl, fun w hSw => by have hz := HCV2.out _ hSw; go_simp⟩) (by assumption) ?_
                try simp only [Act.put, stA, stB, stC]
                refine wpAnyH_take (i := 4) (oi := ⟨some 156, .binOp .neq 9 (.tmp 153) (.tmp 155) 9, 4, "law.go:226", #[⟨1, .data⟩, ⟨3, .data⟩], none⟩) (v := .bool false) rfl (by kernel_rfl) (by kernel_rfl) (by kernel_rfl) (fun _ _ _ h => h) (Or.inl ⟨by rfl, fun w hSw => by go_simp⟩) (by assumption) ?_
                try simp only [Act.put, stA, stB, stC]
                refine wpAnyH_take (i := 5) (oi := ⟨some 157, .move (.tmp 156), 4, "law.go:226", #[⟨4, .data⟩], none⟩) (v := .bool false) rfl (by kernel_rfl) (by kernel_rfl) (by kernel_rfl) (fun _ _ _ h => h) (Or.inl ⟨by rfl, fun w hSw => by go_simp⟩) (by assumption) ?_
                try simp only [Act.put, stA, stB, stC]
                refine wpAnyH_take (i := 6) (oi := ⟨some 158, .move (.tmp 12), 53, "law.go:226", #[⟨5, .guard⟩], some (5, false)⟩) (v := .slice (some ⟨vg, vo, none⟩) n vcp) rfl (by kernel_rfl) (by kernel_rfl) (by kernel_rfl) (fun _ _ _ h => h) (Or.inl ⟨by rfl, fun w hSw => by go_simp⟩) (by assumption) ?_
                try simp only [Act.put, stA, stB, stC]
                refine wpAnyH_take (i := 7) (oi := ⟨some 159, .move (.tmp 15), 3, "law.go:226", #[⟨5, .guard⟩], some (5, false)⟩) (v := .int .i64 (i : Int)) rfl (by kernel_rfl) (by kernel_rfl) (by kernel_rfl) (fun _ _ _ h => h) (Or.inl ⟨by rfl, fun w hSw => by go_simp⟩) (by assumption) ?_
                try simp only [Act.put, stA, stB, stC]
                refine wpAnyH_take (i := 8) (oi := ⟨some 160, .indexAddr 53 (.tmp 158) (.tmp 159), 0, "law.go:226", #[⟨6, .data⟩, ⟨7, .data⟩, ⟨5, .guard⟩], some (5, false)⟩) (v := .pointer (some ⟨vg, vo + i * 4, none⟩)) rfl (by kernel_rfl) (by kernel_rfl) (by kernel_rfl) (fun _ _ _ h => h) (Or.inl ⟨by rfl, fun w hSw => by go_simp⟩) (by assumption) ?_
                try simp only [Act.put, stA, stB, stC]
                refine wpAnyH_take (i := 9) (oi := ⟨some 161, .fieldAddr 60 (.tmp 160) 0, 0, "law.go:226", #[⟨8, .data⟩, ⟨5, .guard⟩], some (5, false)⟩) (v := .pointer (some ⟨vg, vo + i * 4, none⟩)) rfl (by kernel_rfl) (by kernel_rfl) (by kernel_rfl) (fun _ _ _ h => h) (Or.inl ⟨by rfl, fun w hSw => by go_simp⟩) (by assumption) ?_
                try simp only [Act.put, stA, stB, stC]
                refine wpAnyH_take (i := 10) (oi := ⟨some 162, .load 42 (.tmp 161), 42, "law.go:226", #[⟨9, .data⟩, ⟨5, .guard⟩], some (5, false)⟩) (v := .int .u64 (no1 : Int)) rfl (by kernel_rfl) (by kernel_rfl) (by kernel_rfl) (fun _ _ _ h => h) (Or.inl ⟨by rfl, fun w hSw => by have u0 := HITr.out _ hSw; go_simp⟩) (by assumption) ?_
                try simp only [Act.put, stA, stB, stC]
                refine wpAnyH_take (i := 12) (oi := ⟨some 164, .move (.tmp 12), 53, "law.go:226", #[⟨5, .guard⟩], some (5, false)⟩) (v := .slice (some ⟨vg, vo, none⟩) n vcp) rfl (by kernel_rfl) (by kernel_rfl) (by kernel_rfl) (fun _ _ _ h => h) (Or.inl ⟨by rfl, fun w hSw => by go_simp⟩) (by assumption) ?_
                try simp only [Act.put, stA, stB, stC]
                refine wpAnyH_take (i := 13) (oi := ⟨some 165, .move (.tmp 15), 3, "law.go:226", #[⟨5, .guard⟩], some (5, false)⟩) (v := .int .i64 (i : Int)) rfl (by kernel_rfl) (by kernel_rfl) (by kernel_rfl) (fun _ _ _ h => h) (Or.inl ⟨by rfl, fun w hSw => by go_simp⟩) (by assumption) ?_
                try simp only [Act.put, stA, stB, stC]
                refine wpAnyH_take (i := 14) (oi := ⟨some 166, .indexAddr 53 (.tmp 164) (.tmp 165), 0, "law.go:226", #[⟨12, .data⟩, ⟨13, .data⟩, ⟨5, .guard⟩], some (5, false)⟩) (v := .pointer (some ⟨vg, vo + i * 4, none⟩)) rfl (by kernel_rfl) (by kernel_rfl) (by kernel_rfl) (fun _ _ _ h => h) (Or.inl ⟨by rfl, fun w hSw => by go_simp⟩) (by assumption) ?_
                try simp only [Act.put, stA, stB, stC]
                refine wpAnyH_take (i := 15) (oi := ⟨some 167, .fieldAddr 60 (.tmp 166) 0, 0, "law.go:226", #[⟨14, .data⟩, ⟨5, .guard⟩], some (5, false)⟩) (v := .pointer (some ⟨vg, vo + i * 4, none⟩)) rfl (by kernel_rfl) (by kernel_rfl) (by kernel_rfl) (fun _ _ _ h => h) (Or.inl ⟨by rfl, fun w hSw => by go_simp⟩) (by assumption) ?_
                try simp only [Act.put, stA, stB, stC]
                refine wpAnyH_take (i := 16) (oi := ⟨some 168, .load 42 (.tmp 167), 42, "law.go:226", #[⟨15, .data⟩, ⟨5, .guard⟩], some (5, false)⟩) (v := .int .u64 (no1 : Int)) rfl (by kernel_rfl) (by kernel_rfl) (by kernel_rfl) (fun _ _ _ h => h) (Or.inl ⟨by rfl, fun w hSw => by have u0 := HITr.out _ hSw; go_simp⟩) (by assumption) ?_
                try simp only [Act.put, stA, stB, stC]
                refine wpAnyH_ready (rs := [11]) (by kernel_rfl) (by simp) ?_
                refine AllReadyH.cons (o := ⟨some 163, .call ⟨.value (.func 26), #[.tmp 162], #[42]⟩, 9, "law.go:226", #[⟨10, .data⟩, ⟨5, .chain⟩, ⟨5, .guard⟩], some (5, false)⟩) rfl (fun K hK => ?_) AllReadyH.nil
                go_simp
                refine (CNM.out wd).mono ?_
                rintro e w14 ⟨rfl, rfl⟩
                refine hK.out _ _ (hHeld) (fun hHeld => ?_)
                clear hK K
                try simp only [Act.put, stA, stB, stC]
                skip
                refine wpAnyH_ready (rs := [17]) (by kernel_rfl) (by simp) ?_
                refine AllReadyH.cons (o := ⟨some 169, .call ⟨.value (.func 29), #[.tmp 168], #[42]⟩, 9, "law.go:226", #[⟨16, .data⟩, ⟨11, .chain⟩, ⟨5, .guard⟩], some (5, false)⟩) rfl (fun K hK => ?_) AllReadyH.nil
                go_simp
                refine (CDN.out wd).mono ?_
                rintro e w15 ⟨rfl, B15⟩
                have BW := hHeld.trans (B15.mono hHeld.size)
                clear B15
                refine hK.out _ _ (BW) (fun hHeld => ?_)
                clear hK K
                try simp only [Act.put, stA, stB, stC]
                clear BW
                refine wpAnyH_take (i := 18) (oi := ⟨some 170, .binOp .add 9 (.const (.string { data := #[118, 46] })) (.tmp 169) 9, 9, "law.go:226", #[⟨17, .data⟩, ⟨5, .guard⟩], some (5, false)⟩) (v := .string nm) rfl (by kernel_rfl) (by kernel_rfl) (by kernel_rfl) (fun _ _ _ h => h) (Or.inl ⟨by rfl, fun w hSw => by obtain ⟨ha, hs⟩ := HAD.out; go_simp⟩) (by assumption) ?_
                try simp only [Act.put, stA, stB, stC]
                refine wpAnyH_take (i := 19) (oi := ⟨some 171, .binOp .neq 9 (.tmp 163) (.tmp 170) 9, 4, "law.go:226", #[⟨11, .data⟩, ⟨18, .data⟩, ⟨5, .guard⟩], some (5, false)⟩) (v := .bool false) rfl (by kernel_rfl) (by kernel_rfl) (by kernel_rfl) (fun _ _ _ h => h) (Or.inl ⟨by rfl, fun w hSw => by go_simp⟩) (by assumption) ?_
                try simp only [Act.put, stA, stB, stC]
                refine wpAnyH_take (i := 20) (oi := ⟨some 172, .pick (.tmp 157) (.const (.bool true)) (.tmp 171), 4, "law.go:226", #[⟨5, .data⟩, ⟨19, .data⟩], none⟩) (v := .bool false) rfl (by kernel_rfl) (by kernel_rfl) (by kernel_rfl) (fun _ _ _ h => h) (Or.inl ⟨by rfl, fun w hSw => by go_simp⟩) (by assumption) ?_
                try simp only [Act.put, stA, stB, stC]
                refine wpAnyH_done (by kernel_rfl) ?_ _
                try unfold NoPanic
                have HE := Lib.hid hHeld
                clear hHeld
                go_wp2
                go_roundw
                case rel => exact ⟨i + 1, fj, acc + sz9, hlt, rfl, by go_num, by go_num, ⟨HFIN.out.1, HFIN.out.2, HB6r.out.trans (HE.out.mono HB6r.out.size)⟩⟩
                case measure => simp [intOf]; omega
        · have hie : i = n := by omega
          have hfi : fi = j + 1 := by rw [HB.out.1, hie, HN.out, first_end, HP.out.F.next, ← HZ.out.1]
          have hacc : acc = volsZ 0 c.vols c.vols.length := by rw [HB.out.2.1, hie, HN.out]
          have HB6 := Lib.hid HB.out.2.2
          have hge' : ¬ (i : Int) < n := by omega
          have hw1 : IntKind.i64.wrap (fi : Int) = (fi : Int) := by rw [IntKind.wrap_i64]; have := HL.out; omega
          have hw2 : IntKind.i64.wrap ((j : Int) + 1) = (fi : Int) := by rw [IntKind.wrap_i64]; have := HL.out; omega
          have hn40 : n ≤ 40 := by have := HP.out.F.nv; have := HL.out; have := HZ.out.1; have := HN.out; omega
          have HACC := Lib.hid hacc
          have HN40 := Lib.hid hn40
          obtain ⟨hl, hhl⟩ : ∃ x, x = (headB 1 0 0).length := ⟨_, rfl⟩
          obtain ⟨iv, hiv⟩ : ∃ x, x = str (headB 1 0 0) := ⟨_, rfl⟩
          have CI : Hid (∀ W, Below w6.heap.size w6 W → Calls Tryz.prog 25 #[.pointer (some ⟨q, 0, none⟩), .string ⟨#[105, 110, 100, 101, 120]⟩] W fun e w' => ∃ A c, e = .returned (.tuple #[.slice A hl c, .int .i64 0]) ∧ Rd w' w'.heap.size A (headB 1 0 0) ∧ (A = none → c = 0) ∧ Below W.heap.size W w') := Lib.hid fun W hW => by
            have hi := HP.out.G.idx.1
            rw [HP.out.F.hd.1, HP.out.F.hd.2.1, HP.out.F.hd.2.2.1] at hi
            rw [hhl]
            exact read_on W T q m (H6.out.2.2.2.2.below hW).R HP.out.G.on idxN (headB 1 0 0) hi (by decide)
          have HHL := Lib.hid (And.intro hhl hiv)
          clear hacc hn40 hhl hiv
          go_upto_region 29 with (first
            | (go_at_call 25; (with_reducible refine (CI.out _ HB6.out).mono ?_); rintro e w16 ⟨A16, c16, rfl, hrd, hnn, B16⟩; have H16 := Lib.hid (And.intro hrd (And.intro hnn (HB6.out.trans (B16.mono HB6.out.size)))); clear hrd hnn B16))
          clear hw1 hw2 hge'
          have HCI1 : Hid (∀ y, Below w16.heap.size w16 y → (convert 30 9 (.slice A16 hl c16)).run Tryz.prog y = .ok (.string iv) y) := Lib.hid fun y hy => by
            rw [HHL.out.2]; exact Coin.conv_any (H16.out.1.below hy (Nat.le_refl _)) hl c16 HHL.out.1
          obtain ⟨bz, hbz⟩ : ∃ x, x = acc + hl := ⟨_, rfl⟩
          obtain ⟨ol, hol⟩ : ∃ x, x = n + 1 := ⟨_, rfl⟩
          have haccb : acc ≤ 41 * 5000 := by
            have := volsZ_le 0 c.vols 5000 (fun x hx => by have := HP.out.F.sz x hx; have := HP.out.F.len; omega) c.vols.length
            have := HN40.out
            have := HN.out
            rw [HACC.out]; omega
          have hlb : hl ≤ 60 := by rw [HHL.out.1]; exact head_le 1 0 0
          have HWB : Hid (IntKind.i64.wrap ((acc : Int) + (hl : Int)) = (bz : Int) ∧ IntKind.i64.wrap ((n : Int) + 1) = (ol : Int)) := Lib.hid ⟨by rw [IntKind.wrap_i64]; omega, by rw [IntKind.wrap_i64]; have := HN40.out; omega⟩
          have C30 : Hid (∀ y, Below w16.heap.size w16 y → Calls Tryz.prog 30 #[.pointer (some ⟨p, 0, none⟩)] y fun e w' => e = .returned (.int .i64 (bz : Int)) ∧ Below y.heap.size y w') := Lib.hid fun y hy => by
            have hh := HP.out.F.hd
            have := bytesN_any y T p q c (H6.out.2.2.2.2.below (H16.out.2.2.trans (hy.mono H16.out.2.2.size))).C hh.2.1 (by omega) (by omega) (by have := HN40.out; have := HN.out; omega) (fun d hd => by have := HP.out.F.sz d hd; have := HP.out.F.len; omega)
            rw [hh.1, hh.2.2.1, volsZ_add, ← HACC.out, ← HHL.out.1, ← hbz] at this
            exact this
          have C31 : Hid (∀ y, Below w16.heap.size w16 y → Calls Tryz.prog 31 #[.pointer (some ⟨q, 0, none⟩)] y fun e w' => ∃ A k, e = .returned (.slice A ol k) ∧ Below y.heap.size y w') := Lib.hid fun y hy => by
            have P6 := H6.out.2.2.2.2.below (H16.out.2.2.trans (hy.mono H16.out.2.2.size))
            have := list_own y T q m c P6.R P6.G P6.cn (by have := P6.done; have := HL.out; omega)
            rw [own_len, if_pos HP.out.F.hd.2.1, ← HN.out, ← hol] at this
            exact this
          clear haccb hlb hbz hol
          have HBW := Lib.hid ((Below.refl w16.heap.size w16).drew)
          refine wp_region_noPanic ?_
          refine wp_region_held_drew (S := fun y : World => Below w16.heap.size w16 y) (by kernel_rfl) HBW.out (fun hHeld => ?_)
          generalize w16.drew = wd at *
          refine wpAnyH_take (i := 0) (oi := ⟨some 184, .move (.tmp 20), 27, "law.go:234", #[], none⟩) (v := .int .i64 0) rfl (by kernel_rfl) (by kernel_rfl) (by kernel_rfl) (fun _ _ _ h => h) (Or.inl ⟨by rfl, fun w hSw => by go_simp⟩) (by assumption) ?_
          try simp only [Act.put, stA, stB, stC]
          refine wpAnyH_take (i := 1) (oi := ⟨some 185, .binOp .neq 27 (.tmp 184) (.const (.int .i64 0)) 27, 4, "law.go:234", #[⟨0, .data⟩], none⟩) (v := .bool false) rfl (by kernel_rfl) (by kernel_rfl) (by kernel_rfl) (fun _ _ _ h => h) (Or.inl ⟨by rfl, fun w hSw => by go_simp⟩) (by assumption) ?_
          try simp only [Act.put, stA, stB, stC]
          refine wpAnyH_take (i := 2) (oi := ⟨some 186, .move (.tmp 185), 4, "law.go:234", #[⟨1, .data⟩], none⟩) (v := .bool false) rfl (by kernel_rfl) (by kernel_rfl) (by kernel_rfl) (fun _ _ _ h => h) (Or.inl ⟨by rfl, fun w hSw => by go_simp⟩) (by assumption) ?_
          try simp only [Act.put, stA, stB, stC]
          refine wpAnyH_take (i := 3) (oi := ⟨some 187, .move (.tmp 19), 30, "law.go:234", #[⟨2, .guard⟩], some (2, false)⟩) (v := .slice A16 hl c16) rfl (by kernel_rfl) (by kernel_rfl) (by kernel_rfl) (fun _ _ _ h => h) (Or.inl ⟨by rfl, fun w hSw => by go_simp⟩) (by assumption) ?_
          try simp only [Act.put, stA, stB, stC]
          refine wpAnyH_take (i := 4) (oi := ⟨some 188, .convert 30 9 (.tmp 187), 9, "law.go:234", #[⟨3, .data⟩, ⟨2, .guard⟩], some (2, false)⟩) (v := .string iv) rfl (by kernel_rfl) (by kernel_rfl) (by kernel_rfl) (fun _ _ _ h => h) (Or.inl ⟨by rfl, fun w hSw => by have hz := HCI1.out _ hSw; go_simp⟩) (by assumption) ?_
          try simp only [Act.put, stA, stB, stC]
          refine wpAnyH_ready (rs := [5]) (by kernel_rfl) (by simp) ?_
          refine AllReadyH.cons (o := ⟨some 189, .buildSlice 96 3 #[(0, .const (.int .u64 1)), (1, .const (.int .u64 0)), (2, .const (.int .u64 0))], 96, "law.go:234", #[⟨2, .guard⟩], some (2, false)⟩) rfl (fun K hK => ?_) AllReadyH.nil
          go_simp
          have hrow := heap_alloc_new wd (.cells #[.int .u64 1, .int .u64 0, .int .u64 0] 42)
          have BW := hHeld.alloc hHeld.size (.cells #[.int .u64 1, .int .u64 0, .int .u64 0] 42)
          obtain ⟨g5, hg5⟩ : ∃ x, x = wd.heap.size := ⟨_, rfl⟩
          rw [← hg5] at hrow
          have H5r := Lib.hid hrow
          clear hrow hHeld
          have hHeld := BW
          clear BW
          generalize wd.alloc (.cells #[.int .u64 1, .int .u64 0, .int .u64 0] 42) = wd at *
          simp only [← hg5]
          clear hg5
          refine hK.out _ _ (hHeld) (fun hHeld => ?_)
          clear hK K
          try simp only [Act.put, stA, stB, stC]
          skip
          refine wpAnyH_ready (rs := [6]) (by kernel_rfl) (by simp) ?_
          refine AllReadyH.cons (o := ⟨some 190, .call ⟨.value (.func 28), #[.tmp 189], #[96]⟩, 30, "law.go:234", #[⟨5, .data⟩, ⟨2, .chain⟩, ⟨2, .guard⟩], some (2, false)⟩) rfl (fun K hK => ?_) AllReadyH.nil
          have hlist : (.cells (([1, 0, 0].map fun x : Nat => Value.int .u64 (x : Int)).toArray) 42 (0, 0) : Obj) = .cells #[.int .u64 1, .int .u64 0, .int .u64 0] 42 (0, 0) := rfl
          have c28 := rcoins_any wd g5 3 [1, 0, 0] (hlist ▸ H5r.out) (by decide) rfl (by decide)
          go_simp
          refine c28.mono ?_
          rintro e w17 ⟨v17, rfl, O17, B17⟩
          obtain ⟨A17, c17, hv17, hrd17, -, hnn17⟩ := O17.form
          have c27 : Calls Tryz.prog 27 #[.int .u8 76, .slice A17 (coins [1, 0, 0]).length c17] w17 (CoinOwn w17 (headB 1 0 0)) := Frm.rpack_any 76 A17 c17 (coins [1, 0, 0]) w17 (by decide) hrd17 hnn17
          have C27 := Lib.hid c27
          have BW := hHeld.trans (B17.mono hHeld.size)
          obtain ⟨m17, hm17⟩ : ∃ x, x = (coins [1, 0, 0]).length := ⟨_, rfl⟩
          rw [← hm17] at hv17 C27
          subst hv17
          clear hm17 c27 c28 hrd17 hnn17 O17 B17 hlist
          refine hK.out _ _ (BW) (fun hHeld => ?_)
          clear hK K
          try simp only [Act.put, stA, stB, stC]
          clear BW
          refine wpAnyH_ready (rs := [7]) (by kernel_rfl) (by simp) ?_
          refine AllReadyH.cons (o := ⟨some 191, .call ⟨.value (.func 27), #[.const (.int .u8 76), .tmp 190], #[5, 30]⟩, 30, "law.go:234", #[⟨6, .data⟩, ⟨6, .chain⟩, ⟨2, .guard⟩], some (2, false)⟩) rfl (fun K hK => ?_) AllReadyH.nil
          go_simp
          refine (C27.out).mono ?_
          rintro e w18 ⟨v18, rfl, O18, B18⟩
          obtain ⟨A18, c18, hv18, hrd18, -, -⟩ := O18.form
          rw [← HHL.out.1] at hv18
          subst hv18
          have H18 := Lib.hid hrd18
          have BW := hHeld.trans (B18.mono hHeld.size)
          clear hrd18 O18 B18 C27
          refine hK.out _ _ (BW) (fun hHeld => ?_)
          clear hK K
          try simp only [Act.put, stA, stB, stC]
          clear BW
          have HCI2 : (convert 30 9 (.slice A18 hl c18)).run Tryz.prog w18 = .ok (.string iv) w18 := by rw [HHL.out.2]; exact Coin.conv_any H18.out hl c18 HHL.out.1
          refine wpAnyH_ready (rs := [8]) (by kernel_rfl) (by simp) ?_
          refine AllReadyH.cons (o := ⟨some 192, .convert 30 9 (.tmp 191), 9, "law.go:234", #[⟨7, .data⟩, ⟨2, .guard⟩], some (2, false)⟩) rfl (fun K hK => ?_) AllReadyH.nil
          go_simp
          refine hK.out _ _ (hHeld) (fun hHeld => ?_)
          clear hK K
          try simp only [Act.put, stA, stB, stC]
          clear HCI2
          refine wpAnyH_take (i := 9) (oi := ⟨some 193, .binOp .neq 9 (.tmp 188) (.tmp 192) 9, 4, "law.go:234", #[⟨4, .data⟩, ⟨8, .data⟩, ⟨2, .guard⟩], some (2, false)⟩) (v := .bool false) rfl (by kernel_rfl) (by kernel_rfl) (by kernel_rfl) (fun _ _ _ h => h) (Or.inl ⟨by rfl, fun w hSw => by go_simp⟩) (by assumption) ?_
          try simp only [Act.put, stA, stB, stC]
          refine wpAnyH_take (i := 10) (oi := ⟨some 194, .pick (.tmp 186) (.const (.bool true)) (.tmp 193), 4, "law.go:234", #[⟨2, .data⟩, ⟨9, .data⟩], none⟩) (v := .bool false) rfl (by kernel_rfl) (by kernel_rfl) (by kernel_rfl) (fun _ _ _ h => h) (Or.inl ⟨by rfl, fun w hSw => by go_simp⟩) (by assumption) ?_
          try simp only [Act.put, stA, stB, stC]
          refine wpAnyH_take (i := 11) (oi := ⟨some 195, .move (.tmp 194), 4, "law.go:234", #[⟨10, .data⟩, ⟨7, .chain⟩], none⟩) (v := .bool false) rfl (by kernel_rfl) (by kernel_rfl) (by kernel_rfl) (fun _ _ _ h => h) (Or.inl ⟨by rfl, fun w hSw => by go_simp⟩) (by assumption) ?_
          try simp only [Act.put, stA, stB, stC]
          refine wpAnyH_take (i := 12) (oi := ⟨some 196, .move (.tmp 9), 26, "law.go:234", #[⟨11, .guard⟩], some (11, false)⟩) (v := .pointer (some ⟨p, 0, none⟩)) rfl (by kernel_rfl) (by kernel_rfl) (by kernel_rfl) (fun _ _ _ h => h) (Or.inl ⟨by rfl, fun w hSw => by go_simp⟩) (by assumption) ?_
          try simp only [Act.put, stA, stB, stC]
          refine wpAnyH_take (i := 14) (oi := ⟨some 198, .move (.tmp 14), 3, "law.go:234", #[⟨11, .guard⟩], some (11, false)⟩) (v := .int .i64 (acc : Int)) rfl (by kernel_rfl) (by kernel_rfl) (by kernel_rfl) (fun _ _ _ h => h) (Or.inl ⟨by rfl, fun w hSw => by go_simp⟩) (by assumption) ?_
          try simp only [Act.put, stA, stB, stC]
          refine wpAnyH_take (i := 15) (oi := ⟨some 199, .move (.tmp 19), 30, "law.go:234", #[⟨11, .guard⟩], some (11, false)⟩) (v := .slice A16 hl c16) rfl (by kernel_rfl) (by kernel_rfl) (by kernel_rfl) (fun _ _ _ h => h) (Or.inl ⟨by rfl, fun w hSw => by go_simp⟩) (by assumption) ?_
          try simp only [Act.put, stA, stB, stC]
          refine wpAnyH_take (i := 16) (oi := ⟨some 200, .call ⟨.builtin .len, #[.tmp 199], #[30]⟩, 3, "law.go:234", #[⟨15, .data⟩, ⟨11, .guard⟩], some (11, false)⟩) (v := .int .i64 (hl : Int)) rfl (by kernel_rfl) (by kernel_rfl) (by kernel_rfl) (fun _ _ _ h => h) (Or.inl ⟨by rfl, fun w hSw => by go_simp⟩) (by assumption) ?_
          try simp only [Act.put, stA, stB, stC]
          refine wpAnyH_take (i := 17) (oi := ⟨some 201, .binOp .add 3 (.tmp 198) (.tmp 200) 3, 3, "law.go:234", #[⟨14, .data⟩, ⟨16, .data⟩, ⟨11, .guard⟩], some (11, false)⟩) (v := .int .i64 (bz : Int)) rfl (by kernel_rfl) (by kernel_rfl) (by kernel_rfl) (fun _ _ _ h => h) (Or.inl ⟨by rfl, fun w hSw => by have hz := HWB.out.1; go_simp⟩) (by assumption) ?_
          try simp only [Act.put, stA, stB, stC]
          refine wpAnyH_ready (rs := [13]) (by kernel_rfl) (by simp) ?_
          refine AllReadyH.cons (o := ⟨some 197, .call ⟨.value (.func 30), #[.tmp 196], #[26]⟩, 3, "law.go:234", #[⟨12, .data⟩, ⟨11, .chain⟩, ⟨11, .guard⟩], some (11, false)⟩) rfl (fun K hK => ?_) AllReadyH.nil
          go_simp
          refine (C30.out _ hHeld).mono ?_
          rintro e w19 ⟨rfl, B19⟩
          have BW := hHeld.trans (B19.mono hHeld.size)
          clear B19
          refine hK.out _ _ (BW) (fun hHeld => ?_)
          clear hK K
          try simp only [Act.put, stA, stB, stC]
          clear BW
          refine wpAnyH_take (i := 18) (oi := ⟨some 202, .binOp .neq 3 (.tmp 197) (.tmp 201) 3, 4, "law.go:234", #[⟨13, .data⟩, ⟨17, .data⟩, ⟨11, .guard⟩], some (11, false)⟩) (v := .bool false) rfl (by kernel_rfl) (by kernel_rfl) (by kernel_rfl) (fun _ _ _ h => h) (Or.inl ⟨by rfl, fun w hSw => by go_simp⟩) (by assumption) ?_
          try simp only [Act.put, stA, stB, stC]
          refine wpAnyH_take (i := 19) (oi := ⟨some 203, .pick (.tmp 195) (.const (.bool true)) (.tmp 202), 4, "law.go:234", #[⟨11, .data⟩, ⟨18, .data⟩], none⟩) (v := .bool false) rfl (by kernel_rfl) (by kernel_rfl) (by kernel_rfl) (fun _ _ _ h => h) (Or.inl ⟨by rfl, fun w hSw => by go_simp⟩) (by assumption) ?_
          try simp only [Act.put, stA, stB, stC]
          refine wpAnyH_take (i := 20) (oi := ⟨some 204, .move (.tmp 203), 4, "law.go:234", #[⟨19, .data⟩, ⟨13, .chain⟩], none⟩) (v := .bool false) rfl (by kernel_rfl) (by kernel_rfl) (by kernel_rfl) (fun _ _ _ h => h) (Or.inl ⟨by rfl, fun w hSw => by go_simp⟩) (by assumption) ?_
          try simp only [Act.put, stA, stB, stC]
          refine wpAnyH_take (i := 21) (oi := ⟨some 205, .move (.tmp 7), 24, "law.go:234", #[⟨20, .guard⟩], some (20, false)⟩) (v := .pointer (some ⟨q, 0, none⟩)) rfl (by kernel_rfl) (by kernel_rfl) (by kernel_rfl) (fun _ _ _ h => h) (Or.inl ⟨by rfl, fun w hSw => by go_simp⟩) (by assumption) ?_
          try simp only [Act.put, stA, stB, stC]
          refine wpAnyH_take (i := 24) (oi := ⟨some 208, .move (.tmp 12), 53, "law.go:234", #[⟨20, .guard⟩], some (20, false)⟩) (v := .slice VA n vcp) rfl (by kernel_rfl) (by kernel_rfl) (by kernel_rfl) (fun _ _ _ h => h) (Or.inl ⟨by rfl, fun w hSw => by go_simp⟩) (by assumption) ?_
          try simp only [Act.put, stA, stB, stC]
          refine wpAnyH_take (i := 25) (oi := ⟨some 209, .call ⟨.builtin .len, #[.tmp 208], #[53]⟩, 3, "law.go:234", #[⟨24, .data⟩, ⟨20, .guard⟩], some (20, false)⟩) (v := .int .i64 (n : Int)) rfl (by kernel_rfl) (by kernel_rfl) (by kernel_rfl) (fun _ _ _ h => h) (Or.inl ⟨by rfl, fun w hSw => by go_simp⟩) (by assumption) ?_
          try simp only [Act.put, stA, stB, stC]
          refine wpAnyH_take (i := 26) (oi := ⟨some 210, .binOp .add 3 (.tmp 209) (.const (.int .i64 1)) 3, 3, "law.go:234", #[⟨25, .data⟩, ⟨20, .guard⟩], some (20, false)⟩) (v := .int .i64 (ol : Int)) rfl (by kernel_rfl) (by kernel_rfl) (by kernel_rfl) (fun _ _ _ h => h) (Or.inl ⟨by rfl, fun w hSw => by have hz := HWB.out.2; go_simp⟩) (by assumption) ?_
          try simp only [Act.put, stA, stB, stC]
          refine wpAnyH_ready (rs := [22]) (by kernel_rfl) (by simp) ?_
          refine AllReadyH.cons (o := ⟨some 206, .call ⟨.value (.func 31), #[.tmp 205], #[24]⟩, 64, "law.go:234", #[⟨21, .data⟩, ⟨20, .chain⟩, ⟨20, .guard⟩], some (20, false)⟩) rfl (fun K hK => ?_) AllReadyH.nil
          go_simp
          refine (C31.out _ hHeld).mono ?_
          rintro e w20 ⟨A20, c20, rfl, B20⟩
          have BW := hHeld.trans (B20.mono hHeld.size)
          clear B20
          refine hK.out _ _ (BW) (fun hHeld => ?_)
          clear hK K
          try simp only [Act.put, stA, stB, stC]
          clear BW
          refine wpAnyH_take (i := 23) (oi := ⟨some 207, .call ⟨.builtin .len, #[.tmp 206], #[64]⟩, 3, "law.go:234", #[⟨22, .data⟩, ⟨20, .guard⟩], some (20, false)⟩) (v := .int .i64 (ol : Int)) rfl (by kernel_rfl) (by kernel_rfl) (by kernel_rfl) (fun _ _ _ h => h) (Or.inl ⟨by rfl, fun w hSw => by go_simp⟩) (by assumption) ?_
          try simp only [Act.put, stA, stB, stC]
          refine wpAnyH_take (i := 27) (oi := ⟨some 211, .binOp .neq 3 (.tmp 207) (.tmp 210) 3, 4, "law.go:234", #[⟨23, .data⟩, ⟨26, .data⟩, ⟨20, .guard⟩], some (20, false)⟩) (v := .bool false) rfl (by kernel_rfl) (by kernel_rfl) (by kernel_rfl) (fun _ _ _ h => h) (Or.inl ⟨by rfl, fun w hSw => by go_simp⟩) (by assumption) ?_
          try simp only [Act.put, stA, stB, stC]
          refine wpAnyH_take (i := 28) (oi := ⟨some 212, .pick (.tmp 204) (.const (.bool true)) (.tmp 211), 4, "law.go:234", #[⟨20, .data⟩, ⟨27, .data⟩], none⟩) (v := .bool false) rfl (by kernel_rfl) (by kernel_rfl) (by kernel_rfl) (fun _ _ _ h => h) (Or.inl ⟨by rfl, fun w hSw => by go_simp⟩) (by assumption) ?_
          try simp only [Act.put, stA, stB, stC]
          refine wpAnyH_done (by kernel_rfl) ?_ _
          try unfold NoPanic
          have HE := Lib.hid hHeld
          clear hHeld
          by_cases hj0 : j = 0
          · have hj1 : (j : Int) = 0 := by omega
            go_wp2
            go_ret
            exact ⟨rfl, (below_kq H6.out.2.2.2.2.K).trans ((H16.out.2.2.trans (HE.out.mono H16.out.2.2.size)).mono (below_kq H6.out.2.2.2.2.K).size)⟩
          · have hj1 : ¬ (j : Int) = 0 := by omega
            obtain ⟨fm, hfm⟩ : ∃ x, x = fo % j := ⟨_, rfl⟩
            obtain ⟨nn, hnn⟩ : ∃ x, x = 1 + fm := ⟨_, rfl⟩
            have hfml : fm < j := by rw [hfm]; exact Nat.mod_lt _ (by omega)
            have htm : (fo : Int).tmod (j : Int) = (fm : Int) := by rw [hfm, Int.tmod_eq_emod_of_nonneg (by omega)]; omega
            have hw1 : IntKind.i64.wrap (fo : Int) = (fo : Int) := by rw [IntKind.wrap_i64]; omega
            have hw2 : IntKind.i64.wrap (1 + (fm : Int)) = (nn : Int) := by rw [IntKind.wrap_i64]; have := HL.out; omega
            have hw3 : IntKind.u64.wrap (nn : Int) = (nn : Int) := by rw [IntKind.wrap_u64]; have := HL.out; omega
            have hw4 : IntKind.i64.wrap (fm : Int) = (fm : Int) := by rw [IntKind.wrap_i64]; have := HL.out; omega
            have hnx : c.next = j + 1 := by rw [HP.out.F.next, ← HZ.out.1]
            have hvn : c.vols ≠ [] := fun e => by
              unfold CD.next at hnx
              rw [e] at hnx
              have hnx : c.hU + 1 = j + 1 := hnx
              have := HP.out.F.hd.2.2.1
              omega
            have hnp : 0 < n := by rw [HN.out]; exact List.length_pos_iff.2 hvn
            have HNN := Lib.hid (show 1 ≤ nn ∧ nn ≤ j by omega)
            obtain ⟨vg, vo, rfl, hgl, hvg, -⟩ := vx_at H6.out.1 H6.out.2.1 HN.out 0 (by rw [← HN.out]; exact hnp)
            have HVC : Hid (∀ i (hi : i < c.vols.length), w6.cell? ⟨vg, vo + i * 4, none⟩ = some (.int .u64 (c.vols[i].no : Int)) ∧ w6.cell? ⟨vg, vo + i * 4 + 1, none⟩ = some (.int .u64 (c.vols[i].first : Int))) := Lib.hid fun i hi => by
              obtain ⟨vg', vo', e, -, -, h0, h1, -⟩ := vx_at H6.out.1 H6.out.2.1 HN.out i hi
              injection e with e; injection e with e1 e2 _
              subst e1 e2
              exact ⟨h0, h1⟩
            have hvg2 := H6.out.2.2.1 vg hgl
            have B620 : Below w6.heap.size w6 w20 := H16.out.2.2.trans (HE.out.mono H16.out.2.2.size)
            have B6F : Below w6.heap.size w6 (w20.alloc (.cells #[.int .u8 98] 5 (1, 2))) := B620.trans ((Below.refl _ _).alloc B620.size _)
            have HPF := Lib.hid (H6.out.2.2.2.2.below B6F)
            have hT20 : T w20.heap.size = .none := rep_old (H6.out.2.2.2.2.below B620).R (Nat.le_refl _)
            obtain ⟨hcv, hAA⟩ := conv98 w20 T hT20
            have c32 := fold_cz (w20.alloc (.cells #[.int .u8 98] 5 (1, 2))) T p q m c HPF.out.R HPF.out.C HPF.out.G HPF.out.cn (by have := HP.out.F.hd; omega) (HPF.out.F.small HPF.out.G) (by rw [hnx]; have := HL.out; omega) (by have := HPF.out.done; have := HL.out; omega) (nms_mono (HPF.out.G.nms HPF.out.cn) (by have := HN40.out; have := HN.out; omega)) nn (by have := HP.out.F.hd; have := HNN.out; omega) (by rw [hnx]; have := HNN.out; omega) (some ⟨w20.heap.size, 0, none⟩) 1 1 [98] rfl hAA (by decide) (by rw [HPF.out.room]; have := HPF.out.sum; have := HL.out; omega)
            have HZC : Hid (vg < (w20.alloc (.cells #[.int .u8 98] 5 (1, 2))).heap.size ∧ T vg = .none ∧ vg ≠ p ∧ (∀ bA bc vv, (w20.alloc (.cells #[.int .u8 98] 5 (1, 2))).heap[p]? = some (.cells (cC q c bA bc vv) 82 (0, 0)) → ∀ o n k, vv ≠ .slice (some ⟨vg, o, none⟩) n k) ∧ (w20.alloc (.cells #[.int .u8 98] 5 (1, 2))).heap[vg]? = w6.heap[vg]?) := Lib.hid (by
              have hpl : p < gz := by
                obtain ⟨_, _, _, _, C0⟩ := HP.out.C
                rw [HGZ.out]
                exact (Array.getElem?_eq_some_iff.1 C0.row).1
              have hvgz : gz ≤ vg := by rw [HGZ.out]; exact hvg2
              refine ⟨Nat.lt_of_lt_of_le hvg B6F.size, rep_old HP.out.R hvg2, by omega, ?_, B6F.block vg hvg⟩
              exact vols_apart HP.out.C hvn ((B6F.block p (Nat.lt_of_lt_of_le (by rw [← HGZ.out]; exact hpl) H6.out.2.2.2.1.size)).trans (H6.out.2.2.2.1.block p (by rw [← HGZ.out]; exact hpl))) hvg2)
            have HBF := Lib.hid B6F
            have HVN := Lib.hid (And.intro hvn (And.intro hnx hvg))
            clear hfml hnn hfm hnx hvn hnp hgl hvg2 B620 B6F hT20 hAA hj0 hvg
            go_upto_region 38 with (first
              | (go_at_call 32; (with_reducible refine c32.mono ?_); rintro e w21 ⟨m', T', rfl, G21, S21, N21, R21, C21, K21, r21, s21, d21, z21⟩; have H21 := Lib.hid (And.intro G21 (And.intro N21 (And.intro R21 (And.intro C21 (And.intro K21 (And.intro d21 ((z21 vg HZC.out.1 HZC.out.2.1 HZC.out.2.2.1 HZC.out.2.2.2.1).trans HZC.out.2.2.2.2))))))); clear G21 S21 N21 R21 C21 K21 r21 s21 d21 z21 c32))
            obtain ⟨E, hE⟩ : ∃ E, E = endL c.vols nn := ⟨_, rfl⟩
            have hEn : E < n := by rw [hE, HN.out]; exact endL_lt c.vols nn HVN.out.1
            have HCE : Hid (∀ i1, 0 < i1 → i1 < n → w21.cell? ⟨vg, vo + i1 * 4, none⟩ = some (.int .u64 ((i1 + 1 : Nat) : Int)) ∧ ∃ f : Nat, w21.cell? ⟨vg, vo + i1 * 4 + 1, none⟩ = some (.int .u64 (f : Int)) ∧ (f ≤ nn + 1 ↔ i1 - 1 < E)) := Lib.hid fun i1 h0 h1 => by
              have hil : i1 < c.vols.length := by rw [← HN.out]; exact h1
              obtain ⟨x0, x1⟩ := HVC.out i1 hil
              have hc : ∀ r, w21.cell? ⟨vg, r, none⟩ = w6.cell? ⟨vg, r, none⟩ := fun r => by
                unfold World.cell?
                rw [H21.out.2.2.2.2.2.2]
              have hd := List.getElem?_eq_getElem hil
              have hno := HP.out.G.nos i1 _ hd
              refine ⟨?_, c.vols[i1].first, (hc _).trans x1, ?_⟩
              · rw [hc, x0, hno, HP.out.F.hd.1, Nat.add_comm]
              · rw [hE]
                exact endL_iff nn c.vols HP.out.G.fi (i1 - 1) _ (by rw [Nat.sub_add_cancel h0]; exact hd)
            have HE2 := Lib.hid (And.intro hE hEn)
            have hvb : vg < w21.heap.size := by
              have h1 := H21.out.2.2.2.2.2.2
              rw [Array.getElem?_eq_getElem HVN.out.2.2] at h1
              exact (Array.getElem?_eq_some_iff.1 h1).1
            clear hE hEn HVC HZC
            go_loopw [22, 23] (fun v22 v23 wr => ∃ i fv : Nat, i ≤ n ∧ v22 = .int .u64 (fv : Int) ∧ v23 = .int .i64 (i : Int) ∧ Hid (fv = 1 + min i E ∧ Below w21.heap.size w21 wr)) (fun _ v23 _ => n - (intOf v23).toNat)
            case atStart => exact ⟨0, 1, Nat.zero_le _, rfl, rfl, ⟨by omega, Below.refl _ _⟩⟩
            case round =>
              obtain ⟨i, fv, hi, rfl, rfl, HB⟩ := hrel
              rcases Nat.lt_or_ge i n with hlt | hge2
              · have hlt' : (i : Int) < n := by omega
                obtain ⟨i1, hi1⟩ : ∃ x, x = i + 1 := ⟨_, rfl⟩
                have hn40 := HN40.out
                have hw1 : IntKind.i64.wrap ((i : Int) + 1) = (i1 : Int) := by rw [IntKind.wrap_i64]; omega
                obtain ⟨nn1, hn1⟩ : ∃ x, x = nn + 1 := ⟨_, rfl⟩
                have hnb := HNN.out
                have hlb := HL.out
                have hw2 : IntKind.u64.wrap (nn : Int) = (nn : Int) := by rw [IntKind.wrap_u64]; omega
                have hw3 : IntKind.u64.wrap ((nn : Int) + 1) = (nn1 : Int) := by rw [IntKind.wrap_u64]; omega
                by_cases hin : i1 < n
                · have hin' : (i1 : Int) < n := by omega
                  obtain ⟨x0, f, x1, hf⟩ := HCE.out i1 (by omega) hin
                  have y0 := (HB.out.2.cell (p := ⟨vg, vo + i1 * 4, none⟩) hvb).trans x0
                  have y1 := (HB.out.2.cell (p := ⟨vg, vo + i1 * 4 + 1, none⟩) hvb).trans x1
                  clear x0 x1
                  by_cases hc : f ≤ nn1
                  · have hc' : (f : Int) ≤ nn1 := by omega
                    have hfv : i1 + 1 = 1 + min (i + 1) E := by have := hf.1 (by omega); omega
                    have HF := Lib.hid (And.intro hfv hi1)
                    clear hfv hf hc hi1 hn1 hnb hlb hn40
                    go_wp2
                    go_roundw
                    case rel => exact ⟨i + 1, i1 + 1, hlt, rfl, by rw [HF.out.2], ⟨HF.out.1, HB.out.2⟩⟩
                    case measure => have := HF.out.2; simp [intOf]; omega
                  · have hc' : ¬ (f : Int) ≤ nn1 := by omega
                    have hfv : fv = 1 + min (i + 1) E := by
                      have h1 := HB.out.1
                      have h2 : ¬ (i1 - 1 < E) := fun h => hc (by have := hf.2 h; omega)
                      omega
                    have HF := Lib.hid (And.intro hfv hi1)
                    clear hfv hf hc hi1 hn1 hnb hlb hn40
                    go_wp2
                    go_roundw
                    case rel => exact ⟨i + 1, fv, hlt, rfl, by rw [HF.out.2], ⟨HF.out.1, HB.out.2⟩⟩
                    case measure => have := HF.out.2; simp [intOf]; omega
                · have hin' : ¬ (i1 : Int) < n := by omega
                  have hfv : fv = 1 + min (i + 1) E := by have h1 := HB.out.1; have h2 := HE2.out.2; omega
                  have HF := Lib.hid (And.intro hfv hi1)
                  clear hfv hi1 hn1 hnb hlb hn40
                  go_wp2
                  go_roundw
                  case rel => exact ⟨i + 1, fv, hlt, rfl, by rw [HF.out.2], ⟨HF.out.1, HB.out.2⟩⟩
                  case measure => have := HF.out.2; simp [intOf]; omega
              · have hfv : fv = 1 + E := by have h1 := HB.out.1; have h2 := HE2.out.2; omega
                have HB2 := Lib.hid HB.out.2
                have hge' : ¬ (i : Int) < n := by omega
                obtain ⟨hl2, hhl2⟩ : ∃ x, x = (headB fv 1 nn).length := ⟨_, rfl⟩
                obtain ⟨iv2, hiv2⟩ : ∃ x, x = str (headB fv 1 nn) := ⟨_, rfl⟩
                obtain ⟨pb, hpb⟩ : ∃ x, x = pack 98 [98] := ⟨_, rfl⟩
                obtain ⟨bl, hbl⟩ : ∃ x, x = pb.length := ⟨_, rfl⟩
                obtain ⟨bv, hbv⟩ : ∃ x, x = str pb := ⟨_, rfl⟩
                have CI2 : Hid (∀ W, Below w21.heap.size w21 W → Calls Tryz.prog 25 #[.pointer (some ⟨q, 0, none⟩), .string ⟨#[105, 110, 100, 101, 120]⟩] W fun e w' => ∃ A c, e = .returned (.tuple #[.slice A hl2 c, .int .i64 0]) ∧ Rd w' w'.heap.size A (headB fv 1 nn) ∧ (A = none → c = 0) ∧ Below W.heap.size W w') := Lib.hid fun W hW => by
                  have hi := H21.out.1.idx.1
                  rw [show (foldC c nn [98]).hF = fv from by show c.hF + endL c.vols nn = fv; rw [HP.out.F.hd.1, ← HE2.out.1, hfv], show (foldC c nn [98]).hB = 1 from by show c.hB + 1 = 1; rw [HP.out.F.hd.2.1], show (foldC c nn [98]).hU = nn from rfl] at hi
                  rw [hhl2]
                  exact read_on W T' q m' (H21.out.2.2.1.below hW) H21.out.1.on idxN (headB fv 1 nn) hi (by decide)
                have CB2 : Hid (∀ W, Below w21.heap.size w21 W → Calls Tryz.prog 25 #[.pointer (some ⟨q, 0, none⟩), .string ⟨#[98, 46, 49]⟩] W fun e w' => ∃ A c, e = .returned (.tuple #[.slice A bl c, .int .i64 0]) ∧ Rd w' w'.heap.size A pb ∧ (A = none → c = 0) ∧ Below W.heap.size W w') := Lib.hid fun W hW => by
                  have hb1 : (foldC c nn [98]).hB = 1 := by show c.hB + 1 = 1; rw [HP.out.F.hd.2.1]
                  have hi := (H21.out.1.ba (by rw [hb1]; decide)).1
                  rw [hb1, show (foldC c nn [98]).base = [98] from rfl, ← hpb] at hi
                  rw [hbl, ← str_b1]
                  exact read_on W T' q m' (H21.out.2.2.1.below hW) H21.out.1.on (bName 1) pb hi b1_len
                have CNB : Hid (∀ W, Calls Tryz.prog 33 #[.int .u64 1] W fun e w' => e = .returned (.string ⟨#[98, 46, 49]⟩) ∧ W = w') := Lib.hid fun W => by rw [← str_b1]; exact base_any W 1 (by decide)
                have HHL2 := Lib.hid (And.intro hhl2 (And.intro hiv2 (And.intro hbl (And.intro hbv hpb))))
                have HFV := Lib.hid hfv
                clear hfv hhl2 hiv2 hbl hbv hpb
                go_upto_region 43 with (first
                  | (go_at_call 25; (with_reducible refine (CI2.out _ HB2.out).mono ?_); rintro e w22 ⟨A22, c22, rfl, hrd, hnn, B22⟩; have H22 := Lib.hid (And.intro hrd (HB2.out.trans (B22.mono HB2.out.size))); clear hrd hnn B22))
                clear hge'
                go_upto_region 44 with (first
                  | (go_at_call 33; (with_reducible refine (CNB.out _).mono ?_); rintro e w23 ⟨rfl, rfl⟩)
                  | (go_at_call 25; (with_reducible refine (CB2.out _ H22.out.2).mono ?_); rintro e w24 ⟨A24, c24, rfl, hrd, hnn, B24⟩; have H24 := Lib.hid (And.intro hrd (And.intro B24 (H22.out.2.trans (B24.mono H22.out.2.size)))); clear hrd hnn B24))
                have HC1 : Hid (∀ y, Below w24.heap.size w24 y → (convert 30 9 (.slice A22 hl2 c22)).run Tryz.prog y = .ok (.string iv2) y) := Lib.hid fun y hy => by
                  rw [HHL2.out.2.1]; exact Coin.conv_any (H22.out.1.below (H24.out.2.1.trans (hy.mono H24.out.2.1.size)) (Nat.le_refl _)) hl2 c22 HHL2.out.1
                have HC2 : Hid (∀ y, Below w24.heap.size w24 y → (convert 30 9 (.slice A24 bl c24)).run Tryz.prog y = .ok (.string bv) y) := Lib.hid fun y hy => by
                  rw [HHL2.out.2.2.2.1]; exact Coin.conv_any (H24.out.1.below hy (Nat.le_refl _)) bl c24 HHL2.out.2.2.1
                obtain ⟨nv2, hnv2⟩ : ∃ x, x = n - E := ⟨_, rfl⟩
                obtain ⟨ol2, hol2⟩ : ∃ x, x = nv2 + 2 := ⟨_, rfl⟩
                have hfl : (foldC c nn [98]).vols.length = nv2 := by show (c.vols.drop (endL c.vols nn)).length = nv2; rw [List.length_drop, ← HN.out, ← HE2.out.1, hnv2]
                have hn40 := HN40.out
                have C31 : Hid (∀ y, Below w24.heap.size w24 y → Calls Tryz.prog 31 #[.pointer (some ⟨q, 0, none⟩)] y fun e w' => ∃ A k, e = .returned (.slice A ol2 k) ∧ Below y.heap.size y w') := Lib.hid fun y hy => by
                  have := list_own y T' q m' (foldC c nn [98]) (H21.out.2.2.1.below (H24.out.2.2.trans (hy.mono H24.out.2.2.size))) H21.out.1 H21.out.2.1 (by have := HP.out.done; have := HL.out; have := H21.out.2.2.2.2.2.1; omega)
                  rw [own_len, if_neg (by show ¬ c.hB + 1 = 0; omega), hfl, ← hol2] at this
                  exact this
                have C24 : Hid (∀ y, Below w24.heap.size w24 y → Calls Tryz.prog 24 #[.pointer (some ⟨p, 0, none⟩)] y fun e w' => ∃ A k, e = .returned (.slice A nv2 k) ∧ Below y.heap.size y w') := Lib.hid fun y hy => by
                  have := vols_any y T' p q (foldC c nn [98]) (H21.out.2.2.2.1.keep (kp_below (H24.out.2.2.trans (hy.mono H24.out.2.2.size)) T')) (by rw [hfl]; omega)
                  rw [hfl] at this
                  exact this.mono fun e w' ⟨A, k, h1, _, _, _, _, _, h2⟩ => ⟨A, k, h1, h2⟩
                have HWC : Hid (IntKind.u64.wrap (nn : Int) = (nn : Int) ∧ IntKind.i64.wrap ((nv2 : Int) + 2) = (ol2 : Int)) := Lib.hid ⟨by have := HNN.out; have := HL.out; rw [IntKind.wrap_u64]; omega, by rw [IntKind.wrap_i64]; omega⟩
                have HFB : Hid (∀ x ∈ [fv, 1, nn], x < 18446744073709551616) := Lib.hid fun x hx => by
                  have h1 := HNN.out
                  have h2 := HL.out
                  have h3 := HFV.out
                  have h4 := HE2.out.2
                  simp only [List.mem_cons, List.not_mem_nil, or_false] at hx
                  rcases hx with rfl | rfl | rfl <;> omega
                clear hfl hnv2 hol2 hn40
                have HBW := Lib.hid ((Below.refl w24.heap.size w24).drew)
                refine wp_region_noPanic ?_
                refine wp_region_held_drew (S := fun y : World => Below w24.heap.size w24 y) (by kernel_rfl) HBW.out (fun hHeld => ?_)
                generalize w24.drew = wd at *
                refine wpAnyH_take (i := 0) (oi := ⟨some 269, .move (.tmp 20), 27, "law.go:252", #[], none⟩) (v := .int .i64 0) rfl (by kernel_rfl) (by kernel_rfl) (by kernel_rfl) (fun _ _ _ h => h) (Or.inl ⟨by rfl, fun w hSw => by go_simp⟩) (by assumption) ?_
                try simp only [Act.put, stA, stB, stC]
                refine wpAnyH_take (i := 1) (oi := ⟨some 270, .binOp .eql 27 (.tmp 269) (.const (.int .i64 0)) 27, 4, "law.go:252", #[⟨0, .data⟩], none⟩) (v := .bool true) rfl (by kernel_rfl) (by kernel_rfl) (by kernel_rfl) (fun _ _ _ h => h) (Or.inl ⟨by rfl, fun w hSw => by go_simp⟩) (by assumption) ?_
                try simp only [Act.put, stA, stB, stC]
                refine wpAnyH_take (i := 2) (oi := ⟨some 271, .move (.tmp 270), 4, "law.go:252", #[⟨1, .data⟩], none⟩) (v := .bool true) rfl (by kernel_rfl) (by kernel_rfl) (by kernel_rfl) (fun _ _ _ h => h) (Or.inl ⟨by rfl, fun w hSw => by go_simp⟩) (by assumption) ?_
                try simp only [Act.put, stA, stB, stC]
                refine wpAnyH_take (i := 3) (oi := ⟨some 272, .move (.tmp 25), 27, "law.go:252", #[⟨2, .guard⟩], some (2, true)⟩) (v := .int .i64 0) rfl (by kernel_rfl) (by kernel_rfl) (by kernel_rfl) (fun _ _ _ h => h) (Or.inl ⟨by rfl, fun w hSw => by go_simp⟩) (by assumption) ?_
                try simp only [Act.put, stA, stB, stC]
                refine wpAnyH_take (i := 4) (oi := ⟨some 273, .binOp .eql 27 (.tmp 272) (.const (.int .i64 0)) 27, 4, "law.go:252", #[⟨3, .data⟩, ⟨2, .guard⟩], some (2, true)⟩) (v := .bool true) rfl (by kernel_rfl) (by kernel_rfl) (by kernel_rfl) (fun _ _ _ h => h) (Or.inl ⟨by rfl, fun w hSw => by go_simp⟩) (by assumption) ?_
                try simp only [Act.put, stA, stB, stC]
                refine wpAnyH_take (i := 5) (oi := ⟨some 274, .pick (.tmp 271) (.tmp 273) (.const (.bool false)), 4, "law.go:252", #[⟨2, .data⟩, ⟨4, .data⟩], none⟩) (v := .bool true) rfl (by kernel_rfl) (by kernel_rfl) (by kernel_rfl) (fun _ _ _ h => h) (Or.inl ⟨by rfl, fun w hSw => by go_simp⟩) (by assumption) ?_
                try simp only [Act.put, stA, stB, stC]
                refine wpAnyH_take (i := 6) (oi := ⟨some 275, .move (.tmp 274), 4, "law.go:252", #[⟨5, .data⟩, ⟨2, .chain⟩], none⟩) (v := .bool true) rfl (by kernel_rfl) (by kernel_rfl) (by kernel_rfl) (fun _ _ _ h => h) (Or.inl ⟨by rfl, fun w hSw => by go_simp⟩) (by assumption) ?_
                try simp only [Act.put, stA, stB, stC]
                refine wpAnyH_take (i := 7) (oi := ⟨some 276, .move (.tmp 19), 30, "law.go:252", #[⟨6, .guard⟩], some (6, true)⟩) (v := .slice A22 hl2 c22) rfl (by kernel_rfl) (by kernel_rfl) (by kernel_rfl) (fun _ _ _ h => h) (Or.inl ⟨by rfl, fun w hSw => by go_simp⟩) (by assumption) ?_
                try simp only [Act.put, stA, stB, stC]
                refine wpAnyH_take (i := 8) (oi := ⟨some 277, .convert 30 9 (.tmp 276), 9, "law.go:252", #[⟨7, .data⟩, ⟨6, .guard⟩], some (6, true)⟩) (v := .string iv2) rfl (by kernel_rfl) (by kernel_rfl) (by kernel_rfl) (fun _ _ _ h => h) (Or.inl ⟨by rfl, fun w hSw => by have hz := HC1.out _ hSw; go_simp⟩) (by assumption) ?_
                try simp only [Act.put, stA, stB, stC]
                refine wpAnyH_take (i := 9) (oi := ⟨some 278, .move (.tmp 22), 42, "law.go:252", #[⟨6, .guard⟩], some (6, true)⟩) (v := .int .u64 (fv : Int)) rfl (by kernel_rfl) (by kernel_rfl) (by kernel_rfl) (fun _ _ _ h => h) (Or.inl ⟨by rfl, fun w hSw => by go_simp⟩) (by assumption) ?_
                try simp only [Act.put, stA, stB, stC]
                refine wpAnyH_take (i := 10) (oi := ⟨some 279, .move (.tmp 21), 3, "law.go:252", #[⟨6, .guard⟩], some (6, true)⟩) (v := .int .i64 (nn : Int)) rfl (by kernel_rfl) (by kernel_rfl) (by kernel_rfl) (fun _ _ _ h => h) (Or.inl ⟨by rfl, fun w hSw => by go_simp⟩) (by assumption) ?_
                try simp only [Act.put, stA, stB, stC]
                refine wpAnyH_take (i := 11) (oi := ⟨some 280, .convert 3 42 (.tmp 279), 42, "law.go:252", #[⟨10, .data⟩, ⟨6, .guard⟩], some (6, true)⟩) (v := .int .u64 (nn : Int)) rfl (by kernel_rfl) (by kernel_rfl) (by kernel_rfl) (fun _ _ _ h => h) (Or.inl ⟨by rfl, fun w hSw => by have hz := HWC.out.1; go_simp⟩) (by assumption) ?_
                try simp only [Act.put, stA, stB, stC]
                refine wpAnyH_ready (rs := [12]) (by kernel_rfl) (by simp) ?_
                refine AllReadyH.cons (o := ⟨some 281, .buildSlice 96 3 #[(0, .tmp 278), (1, .const (.int .u64 1)), (2, .tmp 280)], 96, "law.go:252", #[⟨9, .data⟩, ⟨11, .data⟩, ⟨6, .guard⟩], some (6, true)⟩) rfl (fun K hK => ?_) AllReadyH.nil
                go_simp
                have hrow := heap_alloc_new wd (.cells #[.int .u64 (fv : Int), .int .u64 1, .int .u64 (nn : Int)] 42)
                have BW := hHeld.alloc hHeld.size (.cells #[.int .u64 (fv : Int), .int .u64 1, .int .u64 (nn : Int)] 42)
                obtain ⟨g5, hg5⟩ : ∃ x, x = wd.heap.size := ⟨_, rfl⟩
                rw [← hg5] at hrow
                have H5r := Lib.hid hrow
                clear hrow hHeld
                have hHeld := BW
                clear BW
                generalize wd.alloc (.cells #[.int .u64 (fv : Int), .int .u64 1, .int .u64 (nn : Int)] 42) = wd at *
                simp only [← hg5]
                clear hg5
                refine hK.out _ _ (hHeld) (fun hHeld => ?_)
                clear hK K
                try simp only [Act.put, stA, stB, stC]
                skip
                refine wpAnyH_ready (rs := [13]) (by kernel_rfl) (by simp) ?_
                refine AllReadyH.cons (o := ⟨some 282, .call ⟨.value (.func 28), #[.tmp 281], #[96]⟩, 30, "law.go:252", #[⟨12, .data⟩, ⟨6, .chain⟩, ⟨6, .guard⟩], some (6, true)⟩) rfl (fun K hK => ?_) AllReadyH.nil
                have hlist : (.cells (([fv, 1, nn].map fun x : Nat => Value.int .u64 (x : Int)).toArray) 42 (0, 0) : Obj) = .cells #[.int .u64 (fv : Int), .int .u64 1, .int .u64 (nn : Int)] 42 (0, 0) := rfl
                have c28 := rcoins_any wd g5 3 [fv, 1, nn] (hlist ▸ H5r.out) HFB.out rfl (by decide)
                go_simp
                refine c28.mono ?_
                rintro e w27 ⟨v27, rfl, O27, B27⟩
                obtain ⟨A27, c27, hv27, hrd27, -, hnn27⟩ := O27.form
                have c37 : Calls Tryz.prog 27 #[.int .u8 76, .slice A27 (coins [fv, 1, nn]).length c27] w27 (CoinOwn w27 (headB fv 1 nn)) := Frm.rpack_any 76 A27 c27 (coins [fv, 1, nn]) w27 (by have := coins_len [fv, 1, nn]; simp only [List.length_cons, List.length_nil] at this; omega) hrd27 hnn27
                have C27 := Lib.hid c37
                have BW := hHeld.trans (B27.mono hHeld.size)
                obtain ⟨m27, hm27⟩ : ∃ x, x = (coins [fv, 1, nn]).length := ⟨_, rfl⟩
                rw [← hm27] at hv27 C27
                subst hv27
                clear hm27 c37 c28 hrd27 hnn27 O27 B27 hlist
                refine hK.out _ _ (BW) (fun hHeld => ?_)
                clear hK K
                try simp only [Act.put, stA, stB, stC]
                clear BW
                refine wpAnyH_ready (rs := [14]) (by kernel_rfl) (by simp) ?_
                refine AllReadyH.cons (o := ⟨some 283, .call ⟨.value (.func 27), #[.const (.int .u8 76), .tmp 282], #[5, 30]⟩, 30, "law.go:252", #[⟨13, .data⟩, ⟨13, .chain⟩, ⟨6, .guard⟩], some (6, true)⟩) rfl (fun K hK => ?_) AllReadyH.nil
                go_simp
                refine (C27.out).mono ?_
                rintro e w28 ⟨v28, rfl, O28, B28⟩
                obtain ⟨A28, c28, hv28, hrd28, -, -⟩ := O28.form
                rw [← HHL2.out.1] at hv28
                subst hv28
                have H28 := Lib.hid hrd28
                have BW := hHeld.trans (B28.mono hHeld.size)
                clear hrd28 O28 B28 C27
                refine hK.out _ _ (BW) (fun hHeld => ?_)
                clear hK K
                try simp only [Act.put, stA, stB, stC]
                clear BW
                have HCI2 : (convert 30 9 (.slice A28 hl2 c28)).run Tryz.prog w28 = .ok (.string iv2) w28 := by rw [HHL2.out.2.1]; exact Coin.conv_any H28.out hl2 c28 HHL2.out.1
                refine wpAnyH_ready (rs := [15]) (by kernel_rfl) (by simp) ?_
                refine AllReadyH.cons (o := ⟨some 284, .convert 30 9 (.tmp 283), 9, "law.go:252", #[⟨14, .data⟩, ⟨6, .guard⟩], some (6, true)⟩) rfl (fun K hK => ?_) AllReadyH.nil
                go_simp
                refine hK.out _ _ (hHeld) (fun hHeld => ?_)
                clear hK K
                try simp only [Act.put, stA, stB, stC]
                clear HCI2
                refine wpAnyH_take (i := 16) (oi := ⟨some 285, .binOp .eql 9 (.tmp 277) (.tmp 284) 9, 4, "law.go:252", #[⟨8, .data⟩, ⟨15, .data⟩, ⟨6, .guard⟩], some (6, true)⟩) (v := .bool true) rfl (by kernel_rfl) (by kernel_rfl) (by kernel_rfl) (fun _ _ _ h => h) (Or.inl ⟨by rfl, fun w hSw => by go_simp⟩) (by assumption) ?_
                try simp only [Act.put, stA, stB, stC]
                refine wpAnyH_take (i := 17) (oi := ⟨some 286, .pick (.tmp 275) (.tmp 285) (.const (.bool false)), 4, "law.go:252", #[⟨6, .data⟩, ⟨16, .data⟩], none⟩) (v := .bool true) rfl (by kernel_rfl) (by kernel_rfl) (by kernel_rfl) (fun _ _ _ h => h) (Or.inl ⟨by rfl, fun w hSw => by go_simp⟩) (by assumption) ?_
                try simp only [Act.put, stA, stB, stC]
                refine wpAnyH_take (i := 18) (oi := ⟨some 287, .move (.tmp 286), 4, "law.go:252", #[⟨17, .data⟩, ⟨14, .chain⟩], none⟩) (v := .bool true) rfl (by kernel_rfl) (by kernel_rfl) (by kernel_rfl) (fun _ _ _ h => h) (Or.inl ⟨by rfl, fun w hSw => by go_simp⟩) (by assumption) ?_
                try simp only [Act.put, stA, stB, stC]
                refine wpAnyH_take (i := 19) (oi := ⟨some 288, .move (.tmp 24), 30, "law.go:252", #[⟨18, .guard⟩], some (18, true)⟩) (v := .slice A24 bl c24) rfl (by kernel_rfl) (by kernel_rfl) (by kernel_rfl) (fun _ _ _ h => h) (Or.inl ⟨by rfl, fun w hSw => by go_simp⟩) (by assumption) ?_
                try simp only [Act.put, stA, stB, stC]
                refine wpAnyH_take (i := 20) (oi := ⟨some 289, .convert 30 9 (.tmp 288), 9, "law.go:252", #[⟨19, .data⟩, ⟨18, .guard⟩], some (18, true)⟩) (v := .string bv) rfl (by kernel_rfl) (by kernel_rfl) (by kernel_rfl) (fun _ _ _ h => h) (Or.inl ⟨by rfl, fun w hSw => by have hz := HC2.out _ hSw; go_simp⟩) (by assumption) ?_
                try simp only [Act.put, stA, stB, stC]
                refine wpAnyH_ready (rs := [21]) (by kernel_rfl) (by simp) ?_
                refine AllReadyH.cons (o := ⟨some 290, .buildSlice 30 1 #[(0, .const (.int .u8 98))], 30, "law.go:252", #[⟨18, .guard⟩], some (18, true)⟩) rfl (fun K hK => ?_) AllReadyH.nil
                go_simp
                obtain ⟨wb, wc, g6, e1, e2, kc, Bb, Bc, R98⟩ := mark98 w28
                simp only [← e1, ← e2]
                have KC := Lib.hid (And.intro kc (And.intro (hHeld.trans (Bc.mono hHeld.size)) R98))
                have BW := hHeld.trans (Bb.mono hHeld.size)
                clear e1 e2 kc Bb Bc R98 hHeld
                refine hK.out _ _ (BW) (fun hHeld => ?_)
                clear hK K
                try simp only [Act.put, stA, stB, stC]
                clear BW
                refine wpAnyH_ready (rs := [22]) (by kernel_rfl) (by simp) ?_
                refine AllReadyH.cons (o := ⟨some 291, .convert 30 30 (.tmp 290), 30, "law.go:252", #[⟨21, .data⟩, ⟨18, .guard⟩], some (18, true)⟩) rfl (fun K hK => ?_) AllReadyH.nil
                have kc := KC.out.1
                go_simp
                refine hK.out _ _ (KC.out.2.1) (fun hHeld => ?_)
                clear hK K
                try simp only [Act.put, stA, stB, stC]
                clear kc
                refine wpAnyH_ready (rs := [23]) (by kernel_rfl) (by simp) ?_
                refine AllReadyH.cons (o := ⟨some 292, .call ⟨.value (.func 27), #[.const (.int .u8 98), .tmp 291], #[5, 30]⟩, 30, "law.go:252", #[⟨22, .data⟩, ⟨18, .chain⟩, ⟨18, .guard⟩], some (18, true)⟩) rfl (fun K hK => ?_) AllReadyH.nil
                go_simp
                refine (show Calls Tryz.prog 27 #[.int .u8 98, .slice (some ⟨g6, 0, none⟩) 1 1] wc (CoinOwn wc (pack 98 [98])) from Frm.rpack_any 98 (some ⟨g6, 0, none⟩) 1 [98] wc (by decide) KC.out.2.2 (fun h => by cases h)).mono ?_
                rintro e w29 ⟨v29, rfl, O29, B29⟩
                obtain ⟨A29, c29, hv29, hrd29, -, -⟩ := O29.form
                rw [← HHL2.out.2.2.2.2] at hv29 hrd29
                rw [← HHL2.out.2.2.1] at hv29
                subst hv29
                have H29 := Lib.hid hrd29
                have BW := hHeld.trans (B29.mono hHeld.size)
                clear hrd29 O29 B29 KC
                refine hK.out _ _ (BW) (fun hHeld => ?_)
                clear hK K
                try simp only [Act.put, stA, stB, stC]
                clear BW
                have HCI3 : (convert 30 9 (.slice A29 bl c29)).run Tryz.prog w29 = .ok (.string bv) w29 := by rw [HHL2.out.2.2.2.1]; exact Coin.conv_any H29.out bl c29 HHL2.out.2.2.1
                refine wpAnyH_ready (rs := [24]) (by kernel_rfl) (by simp) ?_
                refine AllReadyH.cons (o := ⟨some 293, .convert 30 9 (.tmp 292), 9, "law.go:252", #[⟨23, .data⟩, ⟨18, .guard⟩], some (18, true)⟩) rfl (fun K hK => ?_) AllReadyH.nil
                go_simp
                refine hK.out _ _ (hHeld) (fun hHeld => ?_)
                clear hK K
                try simp only [Act.put, stA, stB, stC]
                clear HCI3
                refine wpAnyH_take (i := 25) (oi := ⟨some 294, .binOp .eql 9 (.tmp 289) (.tmp 293) 9, 4, "law.go:252", #[⟨20, .data⟩, ⟨24, .data⟩, ⟨18, .guard⟩], some (18, true)⟩) (v := .bool true) rfl (by kernel_rfl) (by kernel_rfl) (by kernel_rfl) (fun _ _ _ h => h) (Or.inl ⟨by rfl, fun w hSw => by go_simp⟩) (by assumption) ?_
                try simp only [Act.put, stA, stB, stC]
                refine wpAnyH_take (i := 26) (oi := ⟨some 295, .pick (.tmp 287) (.tmp 294) (.const (.bool false)), 4, "law.go:252", #[⟨18, .data⟩, ⟨25, .data⟩], none⟩) (v := .bool true) rfl (by kernel_rfl) (by kernel_rfl) (by kernel_rfl) (fun _ _ _ h => h) (Or.inl ⟨by rfl, fun w hSw => by go_simp⟩) (by assumption) ?_
                try simp only [Act.put, stA, stB, stC]
                refine wpAnyH_take (i := 27) (oi := ⟨some 296, .move (.tmp 295), 4, "law.go:252", #[⟨26, .data⟩, ⟨23, .chain⟩], none⟩) (v := .bool true) rfl (by kernel_rfl) (by kernel_rfl) (by kernel_rfl) (fun _ _ _ h => h) (Or.inl ⟨by rfl, fun w hSw => by go_simp⟩) (by assumption) ?_
                try simp only [Act.put, stA, stB, stC]
                refine wpAnyH_take (i := 28) (oi := ⟨some 297, .move (.tmp 7), 24, "law.go:252", #[⟨27, .guard⟩], some (27, true)⟩) (v := .pointer (some ⟨q, 0, none⟩)) rfl (by kernel_rfl) (by kernel_rfl) (by kernel_rfl) (fun _ _ _ h => h) (Or.inl ⟨by rfl, fun w hSw => by go_simp⟩) (by assumption) ?_
                try simp only [Act.put, stA, stB, stC]
                refine wpAnyH_take (i := 31) (oi := ⟨some 300, .move (.tmp 9), 26, "law.go:252", #[⟨27, .guard⟩], some (27, true)⟩) (v := .pointer (some ⟨p, 0, none⟩)) rfl (by kernel_rfl) (by kernel_rfl) (by kernel_rfl) (fun _ _ _ h => h) (Or.inl ⟨by rfl, fun w hSw => by go_simp⟩) (by assumption) ?_
                try simp only [Act.put, stA, stB, stC]
                refine wpAnyH_ready (rs := [29]) (by kernel_rfl) (by simp) ?_
                refine AllReadyH.cons (o := ⟨some 298, .call ⟨.value (.func 31), #[.tmp 297], #[24]⟩, 64, "law.go:252", #[⟨28, .data⟩, ⟨27, .chain⟩, ⟨27, .guard⟩], some (27, true)⟩) rfl (fun K hK => ?_) AllReadyH.nil
                go_simp
                refine (C31.out _ hHeld).mono ?_
                rintro e w30 ⟨A30, c30, rfl, B30⟩
                have BW := hHeld.trans (B30.mono hHeld.size)
                clear B30
                refine hK.out _ _ (BW) (fun hHeld => ?_)
                clear hK K
                try simp only [Act.put, stA, stB, stC]
                clear BW
                refine wpAnyH_take (i := 30) (oi := ⟨some 299, .call ⟨.builtin .len, #[.tmp 298], #[64]⟩, 3, "law.go:252", #[⟨29, .data⟩, ⟨27, .guard⟩], some (27, true)⟩) (v := .int .i64 (ol2 : Int)) rfl (by kernel_rfl) (by kernel_rfl) (by kernel_rfl) (fun _ _ _ h => h) (Or.inl ⟨by rfl, fun w hSw => by go_simp⟩) (by assumption) ?_
                try simp only [Act.put, stA, stB, stC]
                refine wpAnyH_ready (rs := [32]) (by kernel_rfl) (by simp) ?_
                refine AllReadyH.cons (o := ⟨some 301, .call ⟨.value (.func 24), #[.tmp 300], #[26]⟩, 53, "law.go:252", #[⟨31, .data⟩, ⟨29, .chain⟩, ⟨27, .guard⟩], some (27, true)⟩) rfl (fun K hK => ?_) AllReadyH.nil
                go_simp
                refine (C24.out _ hHeld).mono ?_
                rintro e w31 ⟨A31, c31, rfl, B31⟩
                have BW := hHeld.trans (B31.mono hHeld.size)
                clear B31
                refine hK.out _ _ (BW) (fun hHeld => ?_)
                clear hK K
                try simp only [Act.put, stA, stB, stC]
                clear BW
                refine wpAnyH_take (i := 33) (oi := ⟨some 302, .call ⟨.builtin .len, #[.tmp 301], #[53]⟩, 3, "law.go:252", #[⟨32, .data⟩, ⟨27, .guard⟩], some (27, true)⟩) (v := .int .i64 (nv2 : Int)) rfl (by kernel_rfl) (by kernel_rfl) (by kernel_rfl) (fun _ _ _ h => h) (Or.inl ⟨by rfl, fun w hSw => by go_simp⟩) (by assumption) ?_
                try simp only [Act.put, stA, stB, stC]
                refine wpAnyH_take (i := 34) (oi := ⟨some 303, .binOp .add 3 (.tmp 302) (.const (.int .i64 2)) 3, 3, "law.go:252", #[⟨33, .data⟩, ⟨27, .guard⟩], some (27, true)⟩) (v := .int .i64 (ol2 : Int)) rfl (by kernel_rfl) (by kernel_rfl) (by kernel_rfl) (fun _ _ _ h => h) (Or.inl ⟨by rfl, fun w hSw => by have hz := HWC.out.2; go_simp⟩) (by assumption) ?_
                try simp only [Act.put, stA, stB, stC]
                refine wpAnyH_take (i := 35) (oi := ⟨some 304, .binOp .eql 3 (.tmp 299) (.tmp 303) 3, 4, "law.go:252", #[⟨30, .data⟩, ⟨34, .data⟩, ⟨27, .guard⟩], some (27, true)⟩) (v := .bool true) rfl (by kernel_rfl) (by kernel_rfl) (by kernel_rfl) (fun _ _ _ h => h) (Or.inl ⟨by rfl, fun w hSw => by go_simp⟩) (by assumption) ?_
                try simp only [Act.put, stA, stB, stC]
                refine wpAnyH_take (i := 36) (oi := ⟨some 305, .pick (.tmp 296) (.tmp 304) (.const (.bool false)), 4, "law.go:252", #[⟨27, .data⟩, ⟨35, .data⟩], none⟩) (v := .bool true) rfl (by kernel_rfl) (by kernel_rfl) (by kernel_rfl) (fun _ _ _ h => h) (Or.inl ⟨by rfl, fun w hSw => by go_simp⟩) (by assumption) ?_
                try simp only [Act.put, stA, stB, stC]
                refine wpAnyH_take (i := 37) (oi := ⟨some 306, .move (.tmp 305), 4, "law.go:252", #[⟨36, .data⟩, ⟨32, .chain⟩], none⟩) (v := .bool true) rfl (by kernel_rfl) (by kernel_rfl) (by kernel_rfl) (fun _ _ _ h => h) (Or.inl ⟨by rfl, fun w hSw => by go_simp⟩) (by assumption) ?_
                try simp only [Act.put, stA, stB, stC]
                refine wpAnyH_ready (rs := [38]) (by kernel_rfl) (by simp) ?_
                refine AllReadyH.cons (o := ⟨some 307, .call ⟨.value (.func 33), #[.const (.int .u64 1)], #[42]⟩, 9, "law.go:252", #[⟨37, .chain⟩, ⟨37, .guard⟩], some (37, true)⟩) rfl (fun K hK => ?_) AllReadyH.nil
                go_simp
                refine (CNB.out _).mono ?_
                rintro e w32 ⟨rfl, rfl⟩
                refine hK.out _ _ (hHeld) (fun hHeld => ?_)
                clear hK K
                try simp only [Act.put, stA, stB, stC]
                skip
                refine wpAnyH_take (i := 39) (oi := ⟨some 308, .binOp .eql 9 (.tmp 307) (.const (.string { data := #[98, 46, 49] })) 9, 4, "law.go:252", #[⟨38, .data⟩, ⟨37, .guard⟩], some (37, true)⟩) (v := .bool true) rfl (by kernel_rfl) (by kernel_rfl) (by kernel_rfl) (fun _ _ _ h => h) (Or.inl ⟨by rfl, fun w hSw => by go_simp⟩) (by assumption) ?_
                try simp only [Act.put, stA, stB, stC]
                refine wpAnyH_take (i := 40) (oi := ⟨some 309, .pick (.tmp 306) (.tmp 308) (.const (.bool false)), 4, "law.go:252", #[⟨37, .data⟩, ⟨39, .data⟩], none⟩) (v := .bool true) rfl (by kernel_rfl) (by kernel_rfl) (by kernel_rfl) (fun _ _ _ h => h) (Or.inl ⟨by rfl, fun w hSw => by go_simp⟩) (by assumption) ?_
                try simp only [Act.put, stA, stB, stC]
                refine wpAnyH_take (i := 41) (oi := ⟨some 310, .move (.tmp 309), 4, "law.go:252", #[⟨40, .data⟩, ⟨38, .chain⟩], none⟩) (v := .bool true) rfl (by kernel_rfl) (by kernel_rfl) (by kernel_rfl) (fun _ _ _ h => h) (Or.inl ⟨by rfl, fun w hSw => by go_simp⟩) (by assumption) ?_
                try simp only [Act.put, stA, stB, stC]
                refine wpAnyH_take (i := 42) (oi := ⟨some 311, .pick (.tmp 310) (.const (.bool true)) (.const (.bool false)), 4, "law.go:252", #[⟨41, .data⟩], none⟩) (v := .bool true) rfl (by kernel_rfl) (by kernel_rfl) (by kernel_rfl) (fun _ _ _ h => h) (Or.inl ⟨by rfl, fun w hSw => by go_simp⟩) (by assumption) ?_
                try simp only [Act.put, stA, stB, stC]
                refine wpAnyH_take (i := 43) (oi := ⟨some 6, .assign (.tmp 311), 4, "law.go:252", #[⟨42, .data⟩, ⟨41, .chain⟩, ⟨0, .phase⟩, ⟨1, .phase⟩, ⟨2, .phase⟩, ⟨3, .phase⟩, ⟨4, .phase⟩, ⟨5, .phase⟩, ⟨6, .phase⟩, ⟨7, .phase⟩, ⟨8, .phase⟩, ⟨9, .phase⟩, ⟨10, .phase⟩, ⟨11, .phase⟩, ⟨12, .phase⟩, ⟨13, .phase⟩, ⟨14, .phase⟩, ⟨15, .phase⟩, ⟨16, .phase⟩, ⟨17, .phase⟩, ⟨18, .phase⟩, ⟨19, .phase⟩, ⟨20, .phase⟩, ⟨21, .phase⟩, ⟨22, .phase⟩, ⟨23, .phase⟩, ⟨24, .phase⟩, ⟨25, .phase⟩, ⟨26, .phase⟩, ⟨27, .phase⟩, ⟨28, .phase⟩, ⟨29, .phase⟩, ⟨30, .phase⟩, ⟨31, .phase⟩, ⟨32, .phase⟩, ⟨33, .phase⟩, ⟨34, .phase⟩, ⟨35, .phase⟩, ⟨36, .phase⟩, ⟨37, .phase⟩, ⟨38, .phase⟩, ⟨39, .phase⟩, ⟨40, .phase⟩, ⟨41, .phase⟩, ⟨42, .phase⟩], none⟩) (v := .bool true) rfl (by kernel_rfl) (by kernel_rfl) (by kernel_rfl) (fun _ _ _ h => h) (Or.inl ⟨by rfl, fun w hSw => by go_simp⟩) (by assumption) ?_
                try simp only [Act.put, stA, stB, stC]
                refine wpAnyH_done (by kernel_rfl) ?_ _
                try unfold NoPanic
                have HE4 := Lib.hid hHeld
                clear hHeld
                go_wp2
                go_ret
                exact ⟨rfl, (below_kq (HPF.out.K.trans H21.out.2.2.2.2.1)).trans ((H24.out.2.2.trans (HE4.out.mono H24.out.2.2.size)).mono (below_kq (HPF.out.K.trans H21.out.2.2.2.2.1)).size)⟩
end Go.Proofs.YtdbhgkbmbbjpdaaGreatDoor.Chr
