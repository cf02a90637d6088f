/- Contract: a table out of bytes. -/
import Derived.Test.YtcgncecjbkpmkaaLd
import Derived.Deep.CutBlock
namespace Go.Proofs.Ytcgncecjbkpmkaa.Tab
open Pre Ser Chg Coin
open Go.ChangeShapes Go.WideShapes Go.ChangeAt Go.RowKit
set_option maxRecDepth 8000

structure St where
  n : Nat
  l : List UInt8
  f : Nat
  rs : List R
def St.stp (s : St) : St := ⟨s.n - 1, (tr s.l s.f).2.1, (tr s.l s.f).2.2, s.rs ++ [(tr s.l s.f).1]⟩
def St.on (s : St) : Prop := 0 < s.n ∧ s.f = 0
def run : Nat → St → St
  | 0, s => s
  | k + 1, s => (run k s).stp
def Reach (a s : St) : Prop := ∃ k, s = run k a ∧ ∀ i, i < k → (run i a).on
theorem Reach.refl (a : St) : Reach a a := ⟨0, rfl, fun i h => by omega⟩
theorem Reach.next {a s : St} (h : Reach a s) (ho : s.on) : Reach a s.stp := by
  obtain ⟨k, rfl, h⟩ := h
  refine ⟨k + 1, rfl, fun i hi => ?_⟩
  rcases Nat.lt_or_eq_of_le (Nat.lt_succ_iff.1 hi) with h1 | h1
  · exact h i h1
  · subst h1; exact ho
theorem tk_stuck (l : List UInt8) (f most : Nat) (h : f ≠ 0) : takeV l f most = (0, l, f) := by unfold takeV; rw [if_pos h]
theorem got_pos : ∀ l : List UInt8, (got l).2.2 = 0 → 1 ≤ (got l).2.1
  | [], h => by simp [got] at h
  | b :: r, h => by
    have hl := lead_le b.toNat
    have e : got (b :: r) = if r.length + 1 < lead b.toNat then (0, 0, 5) else if sz (val b r) = lead b.toNat then (val b r, lead b.toNat, 0) else (0, 0, 4) := rfl
    rw [e] at h ⊢
    split
    · rename_i h1; rw [if_pos h1] at h; simp at h
    · rename_i h1; rw [if_neg h1] at h
      split
      · exact hl.1
      · rename_i h2; rw [if_neg h2] at h; simp at h
theorem tk_less (l : List UInt8) (most : Nat) (h : (takeV l 0 most).2.2 = 0) : (takeV l 0 most).2.1.length < l.length := by
  have hg := got_lt l
  unfold takeV at h ⊢
  rw [if_neg (by decide)] at h ⊢
  split
  · rename_i h1; rw [if_pos h1] at h; exact absurd h h1
  · rename_i h1; rw [if_neg h1] at h
    split
    · rename_i h2; rw [if_pos h2] at h; exact absurd h (by show ¬ 6 = 0; decide)
    · have := got_pos l (by omega)
      show (l.drop (got l).2.1).length < l.length
      rw [List.length_drop]; omega
theorem tr_less (l : List UInt8) (h : (tr l 0).2.2 = 0) : (tr l 0).2.1.length < l.length := by
  obtain ⟨a, l1, f1, e1, b1, k1, g1⟩ := tk_next l 0 4294967295 (by decide)
  obtain ⟨n, l2, f2, e2, b2, k2, g2⟩ := tk_next l1 f1 255 k1
  obtain ⟨s, l3, f3, e3, b3, k3, g3⟩ := tk_next l2 f2 65535 k2
  obtain ⟨m, l4, f4, e4, b4, k4, g4⟩ := tk_next l3 f3 65534 k3
  obtain ⟨v, l5, f5, e5, b5, k5, g5⟩ := tk_next l4 f4 9223372036854775808 k4
  obtain ⟨mt, l6, f6, e6, b6, k6, g6⟩ := tk_next l5 f5 65534 k5
  obtain ⟨sq, l7, f7, e7, b7, k7, g7⟩ := tk_next l6 f6 65535 k6
  have st : ∀ {l l' : List UInt8} {f f' n most : Nat}, takeV l f most = (n, l', f') → f' = 0 → f = 0 := fun e h0 => by
    rename_i l l' f f' n most
    by_cases hf : f = 0
    · exact hf
    · rw [tk_stuck l f most hf] at e
      injection e with _ e; injection e with _ e
      omega
  have hl : f1 = 0 → l1.length < l.length := fun h0 => by
    have := tk_less l 4294967295 (by rw [e1]; exact h0)
    rwa [e1] at this
  simp only [tr, e1, e2, e3, e4, e5, e6, e7] at h ⊢
  split at h
  · rename_i hv
    rw [if_pos hv]
    have := hl (st e2 (st e3 (st e4 (st e5 h))))
    show l5.length < _; omega
  · rename_i hv
    rw [if_neg hv]
    have := hl (st e2 (st e3 (st e4 (st e5 (st e6 (st e7 h))))))
    show l7.length < _; omega
/-- What Decode has in memory. -/
structure Dc (w wx : World) (q tq : Nat) (l : List UInt8) (f : Nat) (rs : List R) (v : Value) (no tm : Nat) : Prop where
  pu : Pur wx q l f
  row : wx.heap[tq]? = some (.cells #[v, .int .u64 (no : Int), .int .u64 (tm : Int)] 70 (0, 0))
  own : ROwn wx (tq + 1) v rs
  bl : Below w.heap.size w wx
  lt : q < tq
  le : w.heap.size ≤ q
theorem Dc.tl {w wx : World} {q tq : Nat} {l : List UInt8} {f : Nat} {rs : List R} {v : Value} {no tm : Nat} (h : Dc w wx q tq l f rs v no tm) : tq < wx.heap.size := (Array.getElem?_eq_some_iff.1 h.row).1
theorem Dc.ne {w wx : World} {q tq : Nat} {l : List UInt8} {f : Nat} {rs : List R} {v : Value} {no tm : Nat} (h : Dc w wx q tq l f rs v no tm) (k : Nat) (hk : k ≤ tq) : v.ownBlock ≠ some k := fun e => by
  have := (h.own.lt k e).1; omega
theorem Dc.call {w wx w' : World} {q tq : Nat} {l l' : List UInt8} {f f' : Nat} {rs : List R} {v : Value} {no tm : Nat} (h : Dc w wx q tq l f rs v no tm) (P : Pur w' q l' f') (G : wx.grownBy w' (some q)) : Dc w w' q tq l' f' rs v no tm :=
  ⟨P, (G.block tq h.tl (by have := h.lt; intro e; injection e with e; omega)).trans h.row, h.own.keptBut G (h.ne q (Nat.le_of_lt h.lt)), below_grown h.bl G h.le, h.lt, h.le⟩
theorem Dc.step {w wx w' : World} {q tq : Nat} {l : List UInt8} {f : Nat} {rs : List R} {v : Value} {no tm : Nat} (h : Dc w wx q tq l f rs v no tm) (B : Below wx.heap.size wx w') : Dc w w' q tq l f rs v no tm :=
  ⟨h.pu.below B, (B.block tq h.tl).trans h.row, h.own.kept B, h.bl.trans (B.mono h.bl.size), h.lt, h.le⟩
theorem Dc.set {w wx : World} {q tq : Nat} {l : List UInt8} {f : Nat} {rs rs' : List R} {v : Value} {no tm : Nat} (h : Dc w wx q tq l f rs v no tm) (i : Nat) (x : Value) {v' : Value} {no' tm' : Nat} (ho : ROwn wx (tq + 1) v' rs') (he : (#[v, .int .u64 (no : Int), .int .u64 (tm : Int)] : Array Value).setIfInBounds i x = #[v', .int .u64 (no' : Int), .int .u64 (tm' : Int)]) :
    Dc w (wx.setCell ⟨tq, i, none⟩ x) q tq l f rs' v' no' tm' := by
  have hs := Below.heap_setCell wx ⟨tq, i, none⟩ x
  have h1 := h.lt
  have h2 := h.le
  refine ⟨h.pu.far fun k hk => hs k (by show k ≠ tq; omega), ?_, ho.keptBut (grown_setCell wx tq i x) (fun e => by have := (ho.lt tq e).1; omega), h.bl.setCell (p := ⟨tq, i, none⟩) (by show w.heap.size ≤ tq; omega) x, h1, h2⟩
  rw [← he]
  exact heap_setCell_same wx tq i _ 70 x h.row
/-- What a purse's cells say. -/
def msr (q : Nat) (wr : World) : Nat := match wr.heap[q]? with
  | some (.cells c _ _) => (match (c[0]? : Option Value), (c[1]? : Option Value) with | some (Value.slice _ n _), some (Value.int _ f) => n + (if f = 0 then 1 else 0) | _, _ => 0)
  | _ => 0
theorem msr_pur {w : World} {q f : Nat} {l : List UInt8} (h : Pur w q l f) : msr q w = l.length + (if f = 0 then 1 else 0) := by
  obtain ⟨g, off, cap, h1, _⟩ := h
  unfold msr
  rw [h1]
  simp
/-- How a decoding begins. -/
def st0 (l : List UInt8) : Nat × Nat × St :=
  let a := takeV l 0 18446744073709551615
  let b := takeV a.2.1 a.2.2 18446744073709551615
  let c := takeV b.2.1 b.2.2 18446744073709551615
  (a.1, b.1, ⟨c.1, c.2.1, c.2.2, []⟩)
def DecGood (w : World) (l : List UInt8) (s : St) (e : Ending) (w' : World) : Prop := ∃ q v, e = .returned (.tuple #[.pointer (some ⟨q, 0, none⟩), .int .i64 0]) ∧ TabAt w' w.heap.size q ⟨s.rs, (st0 l).1, (st0 l).2.1⟩ v
def DecSaid (w : World) (l : List UInt8) (e : Ending) (w' : World) : Prop :=
  ∃ s, Reach (st0 l).2.2 s ∧ ¬ s.on ∧ Below w.heap.size w w' ∧ ((∃ er : Nat, er ≠ 0 ∧ e = .returned (.tuple #[.pointer none, .int .i64 (er : Int)])) ∨ (endV s.l s.f = 0 ∧ DecGood w l s e w')) ∧ (endV s.l s.f = 0 → Rising s.rs → (∀ r ∈ s.rs, r.Ok) → DecGood w l s e w')
theorem Dc.app {w wx w' : World} {q tq : Nat} {l : List UInt8} {f : Nat} {rs rs' : List R} {v v' : Value} {no tm : Nat} (h : Dc w wx q tq l f rs v no tm) (O : ROwn w' (tq + 1) v' rs') (G : wx.grownBy w' v.ownBlock) :
    w'.heap[tq]? = some (.cells #[v, .int .u64 (no : Int), .int .u64 (tm : Int)] 70 (0, 0)) ∧ Dc w (w'.setCell ⟨tq, 0, none⟩ v') q tq l f rs' v' no tm := by
  have h1 := h.lt
  have h2 := h.le
  have h3 := h.tl
  have hb : ∀ k, k ≤ tq → w'.heap[k]? = wx.heap[k]? := fun k hk => G.block k (by omega) (fun e => h.ne k hk e.symm)
  have ht := (hb tq (Nat.le_refl _)).trans h.row
  refine ⟨ht, ?_⟩
  have hs := Below.heap_setCell w' ⟨tq, 0, none⟩ v'
  refine ⟨h.pu.far fun k hk => (hs k (by show k ≠ tq; omega)).trans (hb k (by omega)), (heap_setCell_same w' tq 0 _ 70 v' ht).trans (by simp), O.keptBut (grown_setCell w' tq 0 v') (fun e => by have := (O.lt tq e).1; omega), (h.bl.grown G h.bl.size (fun k e => by have := (h.own.lt k e).1; omega)).setCell (p := ⟨tq, 0, none⟩) (by show w.heap.size ≤ tq; omega) v', h1, h2⟩
theorem Dc.good {w w' : World} {q tq a b : Nat} {l lx : List UInt8} {N fx : Nat} {rs : List R} {v : Value} {s0 : St} (h : Dc w w' q tq lx fx rs v a b) (hs : st0 l = (a, b, s0)) : DecGood w l ⟨N, lx, fx, rs⟩ (.returned (.tuple #[.pointer (some ⟨tq, 0, none⟩), .int .i64 0])) w' := by
  have h1 := h.lt
  have h2 := h.le
  refine ⟨tq, v, rfl, ⟨?_, h.own.mono (by omega), h.ne tq (Nat.le_refl _), by omega⟩⟩
  rw [hs]
  exact h.row
set_option maxHeartbeats 4000000 in
theorem decode_any (A : Option Addr) (cap : Nat) (l : List UInt8) (w : World) (hl : l.length ≤ 100000) (hr : Rd w w.heap.size A l) :
    Calls Try.prog 21 #[.slice A l.length cap] w (DecSaid w l) := by
  have c32 := Coin.new_any A cap l w (by omega) hr
  obtain ⟨a, l1, f1, e1, b1, k1, g1⟩ := tk_next l 0 18446744073709551615 (by decide)
  obtain ⟨b, l2, f2, e2, b2, k2, g2⟩ := tk_next l1 f1 18446744073709551615 k1
  obtain ⟨c, l3, f3, e3, b3, k3, g3⟩ := tk_next l2 f2 18446744073709551615 k2
  have hs0 : st0 l = (a, b, ⟨c, l3, f3, []⟩) := by simp only [st0, e1, e2, e3]
  have C1 : Hid (∀ q, TkC 33 #[.pointer (some ⟨q, 0, none⟩), .int .u64 18446744073709551615] .u64 q l 0 a l1 f1) := fun q => tkc' e1 (by decide) (by decide)
  have C2 : Hid (∀ q, TkC 33 #[.pointer (some ⟨q, 0, none⟩), .int .u64 18446744073709551615] .u64 q l1 f1 b l2 f2) := fun q => tkc' e2 k1 (by decide)
  have C3 : Hid (∀ q, TkC 33 #[.pointer (some ⟨q, 0, none⟩), .int .u64 18446744073709551615] .u64 q l2 f2 c l3 f3) := fun q => tkc' e3 k2 (by decide)
  have HS := Lib.hid hs0
  obtain ⟨m, hm⟩ : ∃ m, m = l.length := ⟨_, rfl⟩
  rw [← hm] at c32 g1 hl ⊢
  have HM := Lib.hid hm
  have C0 := Lib.hid c32
  clear c32 e1 e2 e3 hs0 hm hr
  go_enter Try.func21, Try.ntmps21
  go_wp2_with (first
    | (go_at_call 32; (with_reducible refine C0.out.mono ?_); rintro e w1 ⟨q, rfl, P1, hq1, hq2, B1⟩; have HQ := Lib.hid (And.intro P1 B1); clear P1 B1)
    | (go_at_call 23; (with_reducible refine (Tab.new_any _).mono ?_); rintro e w2 ⟨rfl, rfl⟩; have HD0 := Lib.hid (show Dc w (w1.alloc (.cells #[.slice none 0 0, .int .u64 0, .int .u64 0] 70)) q w1.heap.size l 0 [] (.slice none 0 0) 0 0 from ⟨HQ.out.1.below ((Below.refl _ _).alloc (Nat.le_refl _) _), heap_alloc_new w1 _, ROwn.nil _ _, HQ.out.2.alloc HQ.out.2.size _, hq2, hq1⟩); generalize w1.alloc _ = w2 at *; generalize w1.heap.size = tq at *)
    | (go_at_call 33; (with_reducible refine (C1.out q _ HD0.out.pu).mono ?_); rintro e w3 ⟨rfl, P3, G3⟩; have HD1c := Lib.hid (HD0.out.call P3 G3); obtain ⟨t0, t1, t2⟩ := Tab.row3 HD1c.out.row; have tf := fun i => frozen_of_row w3 tq i _ 70 HD1c.out.row; have HD1 := Lib.hid (show Dc w (w3.setCell ⟨tq, 1, none⟩ (.int .u64 (a : Int))) q tq l1 f1 [] (.slice none 0 0) a 0 from HD1c.out.set 1 (.int .u64 (a : Int)) HD1c.out.own (by simp)); clear P3 G3 HD1c)
    | (go_at_call 33; (with_reducible refine (C2.out q _ HD1.out.pu).mono ?_); rintro e w4 ⟨rfl, P4, G4⟩; clear t0 t1 t2 tf; have HD2c := Lib.hid (HD1.out.call P4 G4); obtain ⟨t0, t1, t2⟩ := Tab.row3 HD2c.out.row; have tf := fun i => frozen_of_row w4 tq i _ 70 HD2c.out.row; have HD2 := Lib.hid (show Dc w (w4.setCell ⟨tq, 2, none⟩ (.int .u64 (b : Int))) q tq l2 f2 [] (.slice none 0 0) a b from HD2c.out.set 2 (.int .u64 (b : Int)) HD2c.out.own (by simp)); clear P4 G4 HD2c)
    | (go_at_call 33; (with_reducible refine (C3.out q _ HD2.out.pu).mono ?_); rintro e w5 ⟨rfl, P5, G5⟩; clear t0 t1 t2 tf; have HD3 := Lib.hid (HD2.out.call P5 G5); clear P5 G5))
  have HL0 : Hid (Reach ⟨c, l3, f3, []⟩ ⟨c, l3, f3, []⟩ ∧ f3 ≤ 12 ∧ (∀ r ∈ ([] : List R), r.Fits) ∧ ([] : List R).length + l3.length ≤ m + 1 ∧ (f3 = 0 → ([] : List R).length + l3.length ≤ m) ∧ Dc w w5 q tq l3 f3 [] (.slice none 0 0) a b) := ⟨Reach.refl _, k3, fun r h => (by cases h), by simp only [List.length_nil]; have := HM.out; omega, fun _ => by simp only [List.length_nil]; have := HM.out; omega, HD3.out⟩
  go_loopw [6] (fun nn wr => ∃ N : Nat, nn = .int .u64 N ∧ N < 18446744073709551616 ∧ ∃ l f rs v, Hid (Reach ⟨c, l3, f3, []⟩ ⟨N, l, f, rs⟩ ∧ f ≤ 12 ∧ (∀ r ∈ rs, r.Fits) ∧ rs.length + l.length ≤ m + 1 ∧ (f = 0 → rs.length + l.length ≤ m) ∧ Dc w wr q tq l f rs v a b)) (fun _ wr => msr q wr)
  case atStart => exact ⟨c, rfl, by omega, l3, f3, [], _, HL0⟩
  case round =>
    obtain ⟨N, rfl, hN, lx, fx, rs, v, HR⟩ := hrel
    clear HL0
    obtain ⟨A3, c3, hv3, hsl, -⟩ := HR.out.2.2.2.2.2.own.form
    obtain ⟨n3, hn3⟩ : ∃ n3, n3 = rs.length := ⟨_, rfl⟩
    rw [← hn3] at hv3
    have HV := Lib.hid (And.intro hn3 hsl)
    subst hv3
    have hn3l : n3 ≤ 100001 := by have := HR.out.2.2.2.1; omega
    clear hn3 hsl
    by_cases h0 : 0 < N
    · by_cases hf : fx = 0
      · subst hf
        have c34 := fault_any wr q lx 0 HR.out.2.2.2.2.2.pu
        have H34 := Lib.hid c34
        have ctr := fun W hW => take_row W q lx 0 hW (by decide)
        have htf := tr_facts lx 0 (by decide)
        have htl := tr_less lx
        have hst : St.stp ⟨N, lx, 0, rs⟩ = ⟨N - 1, (tr lx 0).2.1, (tr lx 0).2.2, rs ++ [(tr lx 0).1]⟩ := rfl
        obtain ⟨r, lz, fz, htr⟩ : ∃ r lz fz, tr lx 0 = (r, lz, fz) := ⟨_, _, _, rfl⟩
        rw [htr] at ctr htf htl hst
        have HTR : Hid (∀ W, Pur W q lx 0 → Calls Try.prog 35 #[.pointer (some ⟨q, 0, none⟩)] W fun e w' => e = .returned (.agg #[.int .u32 (r.addr : Int), .int .u8 (r.len : Int), .bool r.has, .int .u32 (r.addr : Int), .int .u8 (r.len : Int), .int .i64 (r.via : Int), .int .u16 (r.metric : Int), .int .u16 (r.seq : Int), .int .u16 (r.ms : Int), .int .u16 (r.mm : Int)]) ∧ Pur w' q lz fz ∧ W.grownBy w' (some q)) := ctr
        obtain ⟨N1, hN1, hN2⟩ : ∃ N1 : Nat, (N : Int) - 1 = N1 ∧ N1 = N - 1 := ⟨N - 1, by omega, rfl⟩
        have hNw : IntKind.u64.wrap (N1 : Int) = N1 := by rw [wrap_u64]; omega
        have hNl : N1 < 18446744073709551616 := by omega
        rw [← hN2] at hst
        have HON : Hid (St.on ⟨N, lx, 0, rs⟩) := ⟨h0, rfl⟩
        have HTF := Lib.hid (And.intro htf (And.intro htl hst))
        obtain ⟨i0, hi0, hz0, hz1, hz2⟩ := info_parts info43
        have HI := Lib.hid (And.intro hi0 (And.intro hz0 (And.intro hz1 hz2)))
        clear c34 ctr htf htl hst htr hN2 hi0 hz0 hz1 hz2
        go_upto_region 8 with (go_at_call 34; (with_reducible refine H34.out.mono ?_); rintro e w6 ⟨rfl, rfl⟩)
        have HD := Lib.hid (HR.out.2.2.2.2.2.step (Below.refl _ _).drew)
        refine wp_region_noPanic ?_
        refine wp_region_held_drew (S := fun _ : World => True) (by kernel_rfl) trivial (fun hHeld => ?_)
        generalize wr.drew = wd at *
        refine wpAnyH_take (i := 0) (oi := { dst := some 32, op := Op.move (Operand.tmp 5), type := 26, pos := "bytes.go:56", after := #[], guard := none }) (v := .pointer (some ⟨tq, 0, none⟩)) rfl (by kernel_rfl) (by kernel_rfl) (by kernel_rfl) (fun _ _ _ h => h) (Or.inl ⟨by rfl, fun w hSw => by go_simp⟩) (by assumption) ?_
        try simp only [Act.put, List.setIfInBounds_toArray, List.set_cons_zero, List.set_cons_succ]
        refine wpAnyH_take (i := 1) (oi := { dst := some 33, op := Op.move (Operand.tmp 5), type := 26, pos := "bytes.go:56", after := #[], guard := none }) (v := .pointer (some ⟨tq, 0, none⟩)) rfl (by kernel_rfl) (by kernel_rfl) (by kernel_rfl) (fun _ _ _ h => h) (Or.inl ⟨by rfl, fun w hSw => by go_simp⟩) (by assumption) ?_
        try simp only [Act.put, List.setIfInBounds_toArray, List.set_cons_zero, List.set_cons_succ]
        refine wpAnyH_take (i := 2) (oi := { dst := some 34, op := Op.nilCheck (Operand.tmp 33), type := 0, pos := "bytes.go:56", after := #[{ on := 1, ground := Ground.data }], guard := none }) (v := .pointer (some ⟨tq, 0, none⟩)) rfl (by kernel_rfl) (by kernel_rfl) (by kernel_rfl) (fun _ _ _ h => h) (Or.inl ⟨by rfl, fun w hSw => by go_simp⟩) (by assumption) ?_
        try simp only [Act.put, List.setIfInBounds_toArray, List.set_cons_zero, List.set_cons_succ]
        refine wpAnyH_take (i := 3) (oi := { dst := some 35, op := Op.fieldAddr 70 (Operand.tmp 34) 0, type := 0, pos := "bytes.go:56", after := #[{ on := 2, ground := Ground.data }], guard := none }) (v := .pointer (some ⟨tq, 0, none⟩)) rfl (by kernel_rfl) (by kernel_rfl) (by kernel_rfl) (fun _ _ _ h => h) (Or.inl ⟨by rfl, fun w hSw => by go_simp⟩) (by assumption) ?_
        try simp only [Act.put, List.setIfInBounds_toArray, List.set_cons_zero, List.set_cons_succ]
        refine wpAnyH_take (i := 5) (oi := { dst := some 37, op := Op.move (Operand.tmp 4), type := 82, pos := "bytes.go:56", after := #[], guard := none }) (v := .pointer (some ⟨q, 0, none⟩)) rfl (by kernel_rfl) (by kernel_rfl) (by kernel_rfl) (fun _ _ _ h => h) (Or.inl ⟨by rfl, fun w hSw => by go_simp⟩) (by assumption) ?_
        try simp only [Act.put, List.setIfInBounds_toArray, List.set_cons_zero, List.set_cons_succ]
        refine wpAnyH_ready (rs := [4, 6]) (by kernel_rfl) (by simp) ?_
        refine (AllReadyH.cons (o := { dst := some 36, op := Op.load 48 (Operand.tmp 35), type := 48, pos := "bytes.go:56", after := #[{ on := 3, ground := Ground.data }], guard := none }) rfl (fun K hK => ?_) (AllReadyH.cons (o := { dst := some 38, op := Op.call { callee := Callee.value (Operand.func 35), args := #[Operand.tmp 37], argTypes := #[82] }, type := 43, pos := "bytes.go:56", after := #[{ on := 5, ground := Ground.data }], guard := none }) rfl (fun K hK => ?_) AllReadyH.nil))
        · obtain ⟨y0, y1, y2⟩ := Tab.row3 HD.out.row
          go_simp
          refine hK.out _ _ (trivial) (fun hHeld => ?_)
          clear hK K
          try simp only [Act.put, List.setIfInBounds_toArray, List.set_cons_zero, List.set_cons_succ]
          clear y0 y1 y2
          refine wpAnyH_ready (rs := [6]) (by kernel_rfl) (by simp) ?_
          refine AllReadyH.cons (o := { dst := some 38, op := Op.call { callee := Callee.value (Operand.func 35), args := #[Operand.tmp 37], argTypes := #[82] }, type := 43, pos := "bytes.go:56", after := #[{ on := 5, ground := Ground.data }], guard := none }) rfl (fun K hK => ?_) AllReadyH.nil
          go_simp
          with_reducible refine (HTR.out _ HD.out.pu).mono ?_
          rintro e w6 ⟨rfl, P6, G6⟩
          replace HD := Lib.hid (HD.out.call P6 G6)
          refine hK.out _ _ (trivial) (fun hHeld => ?_)
          clear hK K
          try simp only [Act.put, List.setIfInBounds_toArray, List.set_cons_zero, List.set_cons_succ]
          clear P6 G6
          refine wpAnyH_ready (rs := [7]) (by kernel_rfl) (by simp) ?_
          refine AllReadyH.cons (o := { dst := some 39, op := Op.buildSlice 48 1 #[(0, Operand.tmp 38)], type := 48, pos := "bytes.go:56", after := #[{ on := 6, ground := Ground.data }], guard := none }) rfl (fun K hK => ?_) AllReadyH.nil
          go_simp
          have HB := heap_alloc_new w6 (.cells #[.int .u32 (r.addr : Int), .int .u8 (r.len : Int), .bool r.has, .int .u32 (r.addr : Int), .int .u8 (r.len : Int), .int .i64 (r.via : Int), .int .u16 (r.metric : Int), .int .u16 (r.seq : Int), .int .u16 (r.ms : Int), .int .u16 (r.mm : Int)] 43)
          replace HD := Lib.hid (HD.out.step ((Below.refl w6.heap.size w6).alloc (Nat.le_refl _) (.cells #[.int .u32 (r.addr : Int), .int .u8 (r.len : Int), .bool r.has, .int .u32 (r.addr : Int), .int .u8 (r.len : Int), .int .i64 (r.via : Int), .int .u16 (r.metric : Int), .int .u16 (r.seq : Int), .int .u16 (r.ms : Int), .int .u16 (r.mm : Int)] 43)))
          have hnews := cells_row w6 r w6.heap.size rfl #[.int .u32 (r.addr : Int), .int .u8 (r.len : Int), .bool r.has, .int .u32 (r.addr : Int), .int .u8 (r.len : Int), .int .i64 (r.via : Int), .int .u16 (r.metric : Int), .int .u16 (r.seq : Int), .int .u16 (r.ms : Int), .int .u16 (r.mm : Int)] rfl
          obtain ⟨vb, hvb⟩ : ∃ vb, vb = w6.heap.size := ⟨_, rfl⟩
          rw [← hvb] at HB hnews ⊢
          have HN := Lib.hid hnews
          clear HB hvb hnews
          generalize w6.alloc _ = w7 at *
          refine hK.out _ _ (trivial) (fun hHeld => ?_)
          clear hK K
          try simp only [Act.put, List.setIfInBounds_toArray, List.set_cons_zero, List.set_cons_succ]
          refine wpAnyH_ready (rs := [8]) (by kernel_rfl) (by simp) ?_
          refine AllReadyH.cons (o := { dst := some 40, op := Op.call { callee := Callee.builtin Builtin.append, args := #[Operand.tmp 36, Operand.tmp 39], argTypes := #[48, 48] }, type := 48, pos := "bytes.go:56", after := #[{ on := 4, ground := Ground.data }, { on := 7, ground := Ground.data }, { on := 6, ground := Ground.chain }], guard := none }) rfl (fun K hK => ?_) AllReadyH.nil
          obtain ⟨v8, w8, hrun, O8, G8, -, -⟩ := run_append_own_at (P := Try.prog) w7 (tq + 1) 48 48 43 i0 _ 10 48 Try.underlying48 HI.out.1 HI.out.2.1 HI.out.2.2.1 HI.out.2.2.2 rfl (by decide) (.slice A3 n3 c3) rs.length (rs.flatMap R.cl) HD.out.own ⟨vb, 0, none⟩ 1 1 r.cl rfl HN.out (rcl_one1 r) (by have := HV.out.1; unfold maxLen; omega) (by have := HV.out.1; omega) HD.out.tl
          refine Lib.wp_append_run _ (.tmp 36) (.tmp 39) 48 48 rfl _ _ rfl rfl _ _ hrun ?_
          have O8' : ROwn w8 (tq + 1) v8 (rs ++ [r]) := by
            unfold ROwn
            rw [List.length_append, List.flatMap_append]
            simpa using O8
          obtain ⟨A8, n8, c8, hv8⟩ : ∃ A8 n8 c8, v8 = .slice A8 n8 c8 := by obtain ⟨A, c, h, -, -⟩ := O8'.form; exact ⟨A, _, c, h⟩
          subst hv8
          have HA := Lib.hid (HD.out.app O8' G8)
          refine hK.out _ _ (trivial) (fun hHeld => ?_)
          clear hK K
          try simp only [Act.put, List.setIfInBounds_toArray, List.set_cons_zero, List.set_cons_succ]
          clear hrun O8 O8' G8
          refine wpAnyH_take (i := 9) (oi := { dst := some 41, op := Op.nilCheck (Operand.tmp 32), type := 0, pos := "bytes.go:56", after := #[{ on := 0, ground := Ground.data }, { on := 0, ground := Ground.phase }, { on := 1, ground := Ground.phase }, { on := 2, ground := Ground.phase }, { on := 3, ground := Ground.phase }, { on := 4, ground := Ground.phase }, { on := 5, ground := Ground.phase }, { on := 6, ground := Ground.phase }, { on := 7, ground := Ground.phase }, { on := 8, ground := Ground.phase }], guard := none }) (v := .pointer (some ⟨tq, 0, none⟩)) rfl (by kernel_rfl) (by kernel_rfl) (by kernel_rfl) (fun _ _ _ h => h) (Or.inl ⟨by rfl, fun w hSw => by go_simp⟩) (by assumption) ?_
          try simp only [Act.put, List.setIfInBounds_toArray, List.set_cons_zero, List.set_cons_succ]
          refine wpAnyH_take (i := 10) (oi := { dst := some 42, op := Op.fieldAddr 70 (Operand.tmp 41) 0, type := 0, pos := "bytes.go:56", after := #[{ on := 9, ground := Ground.data }, { on := 0, ground := Ground.phase }, { on := 1, ground := Ground.phase }, { on := 2, ground := Ground.phase }, { on := 3, ground := Ground.phase }, { on := 4, ground := Ground.phase }, { on := 5, ground := Ground.phase }, { on := 6, ground := Ground.phase }, { on := 7, ground := Ground.phase }, { on := 8, ground := Ground.phase }], guard := none }) (v := .pointer (some ⟨tq, 0, none⟩)) rfl (by kernel_rfl) (by kernel_rfl) (by kernel_rfl) (fun _ _ _ h => h) (Or.inl ⟨by rfl, fun w hSw => by go_simp⟩) (by assumption) ?_
          try simp only [Act.put, List.setIfInBounds_toArray, List.set_cons_zero, List.set_cons_succ]
          refine wpAnyH_ready (rs := [11]) (by kernel_rfl) (by simp) ?_
          refine AllReadyH.cons (o := { dst := none, op := Op.store 48 (Operand.tmp 42) (Operand.tmp 40), type := 0, pos := "bytes.go:56", after := #[{ on := 10, ground := Ground.data }, { on := 8, ground := Ground.data }, { on := 8, ground := Ground.chain }, { on := 0, ground := Ground.phase }, { on := 1, ground := Ground.phase }, { on := 2, ground := Ground.phase }, { on := 3, ground := Ground.phase }, { on := 4, ground := Ground.phase }, { on := 5, ground := Ground.phase }, { on := 6, ground := Ground.phase }, { on := 7, ground := Ground.phase }, { on := 8, ground := Ground.phase }], guard := none }) rfl (fun K hK => ?_) AllReadyH.nil
          obtain ⟨y0, y1, y2⟩ := Tab.row3 HA.out.1
          have yf := fun i => frozen_of_row w8 tq i _ 70 HA.out.1
          go_simp
          clear y0 y1 y2 yf
          have HD9 := Lib.hid HA.out.2
          generalize w8.setCell _ _ = w9 at *
          refine hK.out _ _ trivial (fun hHeld => ?_)
          clear hK K hHeld
          try simp only [Act.put, List.setIfInBounds_toArray, List.set_cons_zero, List.set_cons_succ]
          refine wpAnyH_done (by kernel_rfl) ?_ _
          try unfold NoPanic
          go_wp2
          go_roundw
          case rel =>
            refine ⟨N1, rfl, hNl, lz, fz, rs ++ [r], _, ⟨?_, HTF.out.1.2.1, ?_, ?_, ?_, HD9.out⟩⟩
            · have := HR.out.1.next HON.out
              rwa [HTF.out.2.2] at this
            · intro r' hr'
              rcases List.mem_append.1 hr' with h | h
              · exact HR.out.2.2.1 r' h
              · rw [List.mem_singleton.1 h]; exact HTF.out.1.1
            · have h1 := HTF.out.1.2.2
              have h2 := HR.out.2.2.2.2.1 (by first | rfl | trivial)
              replace h1 : lz.length ≤ lx.length := h1
              rw [List.length_append, List.length_singleton]; omega
            · intro hz
              have h1 : lz.length < lx.length := HTF.out.2.1 hz
              have h2 := HR.out.2.2.2.2.1 (by first | rfl | trivial)
              rw [List.length_append, List.length_singleton]; omega
          case measure =>
            rw [msr_pur HD9.out.pu, msr_pur HR.out.2.2.2.2.2.pu, if_pos rfl]
            have h1 := HTF.out.1.2.2
            split
            · rename_i h2
              have h3 : lz.length < lx.length := HTF.out.2.1 h2
              omega
            · have h3 : lz.length ≤ lx.length := h1
              omega
        · go_simp
          with_reducible refine (HTR.out _ HD.out.pu).mono ?_
          rintro e w6 ⟨rfl, P6, G6⟩
          replace HD := Lib.hid (HD.out.call P6 G6)
          refine hK.out _ _ (trivial) (fun hHeld => ?_)
          clear hK K
          try simp only [Act.put, List.setIfInBounds_toArray, List.set_cons_zero, List.set_cons_succ]
          clear P6 G6
          refine wpAnyH_ready (rs := [4, 7]) (by kernel_rfl) (by simp) ?_
          refine (AllReadyH.cons (o := { dst := some 36, op := Op.load 48 (Operand.tmp 35), type := 48, pos := "bytes.go:56", after := #[{ on := 3, ground := Ground.data }], guard := none }) rfl (fun K hK => ?_) (AllReadyH.cons (o := { dst := some 39, op := Op.buildSlice 48 1 #[(0, Operand.tmp 38)], type := 48, pos := "bytes.go:56", after := #[{ on := 6, ground := Ground.data }], guard := none }) rfl (fun K hK => ?_) AllReadyH.nil))
          · obtain ⟨y0, y1, y2⟩ := Tab.row3 HD.out.row
            go_simp
            refine hK.out _ _ (trivial) (fun hHeld => ?_)
            clear hK K
            try simp only [Act.put, List.setIfInBounds_toArray, List.set_cons_zero, List.set_cons_succ]
            clear y0 y1 y2
            refine wpAnyH_ready (rs := [7]) (by kernel_rfl) (by simp) ?_
            refine AllReadyH.cons (o := { dst := some 39, op := Op.buildSlice 48 1 #[(0, Operand.tmp 38)], type := 48, pos := "bytes.go:56", after := #[{ on := 6, ground := Ground.data }], guard := none }) rfl (fun K hK => ?_) AllReadyH.nil
            go_simp
            have HB := heap_alloc_new w6 (.cells #[.int .u32 (r.addr : Int), .int .u8 (r.len : Int), .bool r.has, .int .u32 (r.addr : Int), .int .u8 (r.len : Int), .int .i64 (r.via : Int), .int .u16 (r.metric : Int), .int .u16 (r.seq : Int), .int .u16 (r.ms : Int), .int .u16 (r.mm : Int)] 43)
            replace HD := Lib.hid (HD.out.step ((Below.refl w6.heap.size w6).alloc (Nat.le_refl _) (.cells #[.int .u32 (r.addr : Int), .int .u8 (r.len : Int), .bool r.has, .int .u32 (r.addr : Int), .int .u8 (r.len : Int), .int .i64 (r.via : Int), .int .u16 (r.metric : Int), .int .u16 (r.seq : Int), .int .u16 (r.ms : Int), .int .u16 (r.mm : Int)] 43)))
            have hnews := cells_row w6 r w6.heap.size rfl #[.int .u32 (r.addr : Int), .int .u8 (r.len : Int), .bool r.has, .int .u32 (r.addr : Int), .int .u8 (r.len : Int), .int .i64 (r.via : Int), .int .u16 (r.metric : Int), .int .u16 (r.seq : Int), .int .u16 (r.ms : Int), .int .u16 (r.mm : Int)] rfl
            obtain ⟨vb, hvb⟩ : ∃ vb, vb = w6.heap.size := ⟨_, rfl⟩
            rw [← hvb] at HB hnews ⊢
            have HN := Lib.hid hnews
            clear HB hvb hnews
            generalize w6.alloc _ = w7 at *
            refine hK.out _ _ (trivial) (fun hHeld => ?_)
            clear hK K
            try simp only [Act.put, List.setIfInBounds_toArray, List.set_cons_zero, List.set_cons_succ]
            refine wpAnyH_ready (rs := [8]) (by kernel_rfl) (by simp) ?_
            refine AllReadyH.cons (o := { dst := some 40, op := Op.call { callee := Callee.builtin Builtin.append, args := #[Operand.tmp 36, Operand.tmp 39], argTypes := #[48, 48] }, type := 48, pos := "bytes.go:56", after := #[{ on := 4, ground := Ground.data }, { on := 7, ground := Ground.data }, { on := 6, ground := Ground.chain }], guard := none }) rfl (fun K hK => ?_) AllReadyH.nil
            obtain ⟨v8, w8, hrun, O8, G8, -, -⟩ := run_append_own_at (P := Try.prog) w7 (tq + 1) 48 48 43 i0 _ 10 48 Try.underlying48 HI.out.1 HI.out.2.1 HI.out.2.2.1 HI.out.2.2.2 rfl (by decide) (.slice A3 n3 c3) rs.length (rs.flatMap R.cl) HD.out.own ⟨vb, 0, none⟩ 1 1 r.cl rfl HN.out (rcl_one1 r) (by have := HV.out.1; unfold maxLen; omega) (by have := HV.out.1; omega) HD.out.tl
            refine Lib.wp_append_run _ (.tmp 36) (.tmp 39) 48 48 rfl _ _ rfl rfl _ _ hrun ?_
            have O8' : ROwn w8 (tq + 1) v8 (rs ++ [r]) := by
              unfold ROwn
              rw [List.length_append, List.flatMap_append]
              simpa using O8
            obtain ⟨A8, n8, c8, hv8⟩ : ∃ A8 n8 c8, v8 = .slice A8 n8 c8 := by obtain ⟨A, c, h, -, -⟩ := O8'.form; exact ⟨A, _, c, h⟩
            subst hv8
            have HA := Lib.hid (HD.out.app O8' G8)
            refine hK.out _ _ (trivial) (fun hHeld => ?_)
            clear hK K
            try simp only [Act.put, List.setIfInBounds_toArray, List.set_cons_zero, List.set_cons_succ]
            clear hrun O8 O8' G8
            refine wpAnyH_take (i := 9) (oi := { dst := some 41, op := Op.nilCheck (Operand.tmp 32), type := 0, pos := "bytes.go:56", after := #[{ on := 0, ground := Ground.data }, { on := 0, ground := Ground.phase }, { on := 1, ground := Ground.phase }, { on := 2, ground := Ground.phase }, { on := 3, ground := Ground.phase }, { on := 4, ground := Ground.phase }, { on := 5, ground := Ground.phase }, { on := 6, ground := Ground.phase }, { on := 7, ground := Ground.phase }, { on := 8, ground := Ground.phase }], guard := none }) (v := .pointer (some ⟨tq, 0, none⟩)) rfl (by kernel_rfl) (by kernel_rfl) (by kernel_rfl) (fun _ _ _ h => h) (Or.inl ⟨by rfl, fun w hSw => by go_simp⟩) (by assumption) ?_
            try simp only [Act.put, List.setIfInBounds_toArray, List.set_cons_zero, List.set_cons_succ]
            refine wpAnyH_take (i := 10) (oi := { dst := some 42, op := Op.fieldAddr 70 (Operand.tmp 41) 0, type := 0, pos := "bytes.go:56", after := #[{ on := 9, ground := Ground.data }, { on := 0, ground := Ground.phase }, { on := 1, ground := Ground.phase }, { on := 2, ground := Ground.phase }, { on := 3, ground := Ground.phase }, { on := 4, ground := Ground.phase }, { on := 5, ground := Ground.phase }, { on := 6, ground := Ground.phase }, { on := 7, ground := Ground.phase }, { on := 8, ground := Ground.phase }], guard := none }) (v := .pointer (some ⟨tq, 0, none⟩)) rfl (by kernel_rfl) (by kernel_rfl) (by kernel_rfl) (fun _ _ _ h => h) (Or.inl ⟨by rfl, fun w hSw => by go_simp⟩) (by assumption) ?_
            try simp only [Act.put, List.setIfInBounds_toArray, List.set_cons_zero, List.set_cons_succ]
            refine wpAnyH_ready (rs := [11]) (by kernel_rfl) (by simp) ?_
            refine AllReadyH.cons (o := { dst := none, op := Op.store 48 (Operand.tmp 42) (Operand.tmp 40), type := 0, pos := "bytes.go:56", after := #[{ on := 10, ground := Ground.data }, { on := 8, ground := Ground.data }, { on := 8, ground := Ground.chain }, { on := 0, ground := Ground.phase }, { on := 1, ground := Ground.phase }, { on := 2, ground := Ground.phase }, { on := 3, ground := Ground.phase }, { on := 4, ground := Ground.phase }, { on := 5, ground := Ground.phase }, { on := 6, ground := Ground.phase }, { on := 7, ground := Ground.phase }, { on := 8, ground := Ground.phase }], guard := none }) rfl (fun K hK => ?_) AllReadyH.nil
            obtain ⟨y0, y1, y2⟩ := Tab.row3 HA.out.1
            have yf := fun i => frozen_of_row w8 tq i _ 70 HA.out.1
            go_simp
            clear y0 y1 y2 yf
            have HD9 := Lib.hid HA.out.2
            generalize w8.setCell _ _ = w9 at *
            refine hK.out _ _ trivial (fun hHeld => ?_)
            clear hK K hHeld
            try simp only [Act.put, List.setIfInBounds_toArray, List.set_cons_zero, List.set_cons_succ]
            refine wpAnyH_done (by kernel_rfl) ?_ _
            try unfold NoPanic
            go_wp2
            go_roundw
            case rel =>
              refine ⟨N1, rfl, hNl, lz, fz, rs ++ [r], _, ⟨?_, HTF.out.1.2.1, ?_, ?_, ?_, HD9.out⟩⟩
              · have := HR.out.1.next HON.out
                rwa [HTF.out.2.2] at this
              · intro r' hr'
                rcases List.mem_append.1 hr' with h | h
                · exact HR.out.2.2.1 r' h
                · rw [List.mem_singleton.1 h]; exact HTF.out.1.1
              · have h1 := HTF.out.1.2.2
                have h2 := HR.out.2.2.2.2.1 (by first | rfl | trivial)
                replace h1 : lz.length ≤ lx.length := h1
                rw [List.length_append, List.length_singleton]; omega
              · intro hz
                have h1 : lz.length < lx.length := HTF.out.2.1 hz
                have h2 := HR.out.2.2.2.2.1 (by first | rfl | trivial)
                rw [List.length_append, List.length_singleton]; omega
            case measure =>
              rw [msr_pur HD9.out.pu, msr_pur HR.out.2.2.2.2.2.pu, if_pos rfl]
              have h1 := HTF.out.1.2.2
              split
              · rename_i h2
                have h3 : lz.length < lx.length := HTF.out.2.1 h2
                omega
              · have h3 : lz.length ≤ lx.length := h1
                omega
          · go_simp
            have HB := heap_alloc_new w6 (.cells #[.int .u32 (r.addr : Int), .int .u8 (r.len : Int), .bool r.has, .int .u32 (r.addr : Int), .int .u8 (r.len : Int), .int .i64 (r.via : Int), .int .u16 (r.metric : Int), .int .u16 (r.seq : Int), .int .u16 (r.ms : Int), .int .u16 (r.mm : Int)] 43)
            replace HD := Lib.hid (HD.out.step ((Below.refl w6.heap.size w6).alloc (Nat.le_refl _) (.cells #[.int .u32 (r.addr : Int), .int .u8 (r.len : Int), .bool r.has, .int .u32 (r.addr : Int), .int .u8 (r.len : Int), .int .i64 (r.via : Int), .int .u16 (r.metric : Int), .int .u16 (r.seq : Int), .int .u16 (r.ms : Int), .int .u16 (r.mm : Int)] 43)))
            have hnews := cells_row w6 r w6.heap.size rfl #[.int .u32 (r.addr : Int), .int .u8 (r.len : Int), .bool r.has, .int .u32 (r.addr : Int), .int .u8 (r.len : Int), .int .i64 (r.via : Int), .int .u16 (r.metric : Int), .int .u16 (r.seq : Int), .int .u16 (r.ms : Int), .int .u16 (r.mm : Int)] rfl
            obtain ⟨vb, hvb⟩ : ∃ vb, vb = w6.heap.size := ⟨_, rfl⟩
            rw [← hvb] at HB hnews ⊢
            have HN := Lib.hid hnews
            clear HB hvb hnews
            generalize w6.alloc _ = w7 at *
            refine hK.out _ _ (trivial) (fun hHeld => ?_)
            clear hK K
            try simp only [Act.put, List.setIfInBounds_toArray, List.set_cons_zero, List.set_cons_succ]
            refine wpAnyH_ready (rs := [4]) (by kernel_rfl) (by simp) ?_
            refine AllReadyH.cons (o := { dst := some 36, op := Op.load 48 (Operand.tmp 35), type := 48, pos := "bytes.go:56", after := #[{ on := 3, ground := Ground.data }], guard := none }) rfl (fun K hK => ?_) AllReadyH.nil
            obtain ⟨y0, y1, y2⟩ := Tab.row3 HD.out.row
            go_simp
            refine hK.out _ _ (trivial) (fun hHeld => ?_)
            clear hK K
            try simp only [Act.put, List.setIfInBounds_toArray, List.set_cons_zero, List.set_cons_succ]
            clear y0 y1 y2
            refine wpAnyH_ready (rs := [8]) (by kernel_rfl) (by simp) ?_
            refine AllReadyH.cons (o := { dst := some 40, op := Op.call { callee := Callee.builtin Builtin.append, args := #[Operand.tmp 36, Operand.tmp 39], argTypes := #[48, 48] }, type := 48, pos := "bytes.go:56", after := #[{ on := 4, ground := Ground.data }, { on := 7, ground := Ground.data }, { on := 6, ground := Ground.chain }], guard := none }) rfl (fun K hK => ?_) AllReadyH.nil
            obtain ⟨v8, w8, hrun, O8, G8, -, -⟩ := run_append_own_at (P := Try.prog) w7 (tq + 1) 48 48 43 i0 _ 10 48 Try.underlying48 HI.out.1 HI.out.2.1 HI.out.2.2.1 HI.out.2.2.2 rfl (by decide) (.slice A3 n3 c3) rs.length (rs.flatMap R.cl) HD.out.own ⟨vb, 0, none⟩ 1 1 r.cl rfl HN.out (rcl_one1 r) (by have := HV.out.1; unfold maxLen; omega) (by have := HV.out.1; omega) HD.out.tl
            refine Lib.wp_append_run _ (.tmp 36) (.tmp 39) 48 48 rfl _ _ rfl rfl _ _ hrun ?_
            have O8' : ROwn w8 (tq + 1) v8 (rs ++ [r]) := by
              unfold ROwn
              rw [List.length_append, List.flatMap_append]
              simpa using O8
            obtain ⟨A8, n8, c8, hv8⟩ : ∃ A8 n8 c8, v8 = .slice A8 n8 c8 := by obtain ⟨A, c, h, -, -⟩ := O8'.form; exact ⟨A, _, c, h⟩
            subst hv8
            have HA := Lib.hid (HD.out.app O8' G8)
            refine hK.out _ _ (trivial) (fun hHeld => ?_)
            clear hK K
            try simp only [Act.put, List.setIfInBounds_toArray, List.set_cons_zero, List.set_cons_succ]
            clear hrun O8 O8' G8
            refine wpAnyH_take (i := 9) (oi := { dst := some 41, op := Op.nilCheck (Operand.tmp 32), type := 0, pos := "bytes.go:56", after := #[{ on := 0, ground := Ground.data }, { on := 0, ground := Ground.phase }, { on := 1, ground := Ground.phase }, { on := 2, ground := Ground.phase }, { on := 3, ground := Ground.phase }, { on := 4, ground := Ground.phase }, { on := 5, ground := Ground.phase }, { on := 6, ground := Ground.phase }, { on := 7, ground := Ground.phase }, { on := 8, ground := Ground.phase }], guard := none }) (v := .pointer (some ⟨tq, 0, none⟩)) rfl (by kernel_rfl) (by kernel_rfl) (by kernel_rfl) (fun _ _ _ h => h) (Or.inl ⟨by rfl, fun w hSw => by go_simp⟩) (by assumption) ?_
            try simp only [Act.put, List.setIfInBounds_toArray, List.set_cons_zero, List.set_cons_succ]
            refine wpAnyH_take (i := 10) (oi := { dst := some 42, op := Op.fieldAddr 70 (Operand.tmp 41) 0, type := 0, pos := "bytes.go:56", after := #[{ on := 9, ground := Ground.data }, { on := 0, ground := Ground.phase }, { on := 1, ground := Ground.phase }, { on := 2, ground := Ground.phase }, { on := 3, ground := Ground.phase }, { on := 4, ground := Ground.phase }, { on := 5, ground := Ground.phase }, { on := 6, ground := Ground.phase }, { on := 7, ground := Ground.phase }, { on := 8, ground := Ground.phase }], guard := none }) (v := .pointer (some ⟨tq, 0, none⟩)) rfl (by kernel_rfl) (by kernel_rfl) (by kernel_rfl) (fun _ _ _ h => h) (Or.inl ⟨by rfl, fun w hSw => by go_simp⟩) (by assumption) ?_
            try simp only [Act.put, List.setIfInBounds_toArray, List.set_cons_zero, List.set_cons_succ]
            refine wpAnyH_ready (rs := [11]) (by kernel_rfl) (by simp) ?_
            refine AllReadyH.cons (o := { dst := none, op := Op.store 48 (Operand.tmp 42) (Operand.tmp 40), type := 0, pos := "bytes.go:56", after := #[{ on := 10, ground := Ground.data }, { on := 8, ground := Ground.data }, { on := 8, ground := Ground.chain }, { on := 0, ground := Ground.phase }, { on := 1, ground := Ground.phase }, { on := 2, ground := Ground.phase }, { on := 3, ground := Ground.phase }, { on := 4, ground := Ground.phase }, { on := 5, ground := Ground.phase }, { on := 6, ground := Ground.phase }, { on := 7, ground := Ground.phase }, { on := 8, ground := Ground.phase }], guard := none }) rfl (fun K hK => ?_) AllReadyH.nil
            obtain ⟨y0, y1, y2⟩ := Tab.row3 HA.out.1
            have yf := fun i => frozen_of_row w8 tq i _ 70 HA.out.1
            go_simp
            clear y0 y1 y2 yf
            have HD9 := Lib.hid HA.out.2
            generalize w8.setCell _ _ = w9 at *
            refine hK.out _ _ trivial (fun hHeld => ?_)
            clear hK K hHeld
            try simp only [Act.put, List.setIfInBounds_toArray, List.set_cons_zero, List.set_cons_succ]
            refine wpAnyH_done (by kernel_rfl) ?_ _
            try unfold NoPanic
            go_wp2
            go_roundw
            case rel =>
              refine ⟨N1, rfl, hNl, lz, fz, rs ++ [r], _, ⟨?_, HTF.out.1.2.1, ?_, ?_, ?_, HD9.out⟩⟩
              · have := HR.out.1.next HON.out
                rwa [HTF.out.2.2] at this
              · intro r' hr'
                rcases List.mem_append.1 hr' with h | h
                · exact HR.out.2.2.1 r' h
                · rw [List.mem_singleton.1 h]; exact HTF.out.1.1
              · have h1 := HTF.out.1.2.2
                have h2 := HR.out.2.2.2.2.1 (by first | rfl | trivial)
                replace h1 : lz.length ≤ lx.length := h1
                rw [List.length_append, List.length_singleton]; omega
              · intro hz
                have h1 : lz.length < lx.length := HTF.out.2.1 hz
                have h2 := HR.out.2.2.2.2.1 (by first | rfl | trivial)
                rw [List.length_append, List.length_singleton]; omega
            case measure =>
              rw [msr_pur HD9.out.pu, msr_pur HR.out.2.2.2.2.2.pu, if_pos rfl]
              have h1 := HTF.out.1.2.2
              split
              · rename_i h2
                have h3 : lz.length < lx.length := HTF.out.2.1 h2
                omega
              · have h3 : lz.length ≤ lx.length := h1
                omega
      · have c34 := fault_any wr q lx fx HR.out.2.2.2.2.2.pu
        have hfz : ((fx : Int) == 0) = false := by simp; omega
        have hfz2 : ¬ fx = 0 := hf
        have HOFF : Hid (¬ St.on ⟨N, lx, fx, rs⟩) := fun h => hf h.2
        have H34 := Lib.hid c34
        clear c34 hf
        go_upto_region 9 with (go_at_call 34; (with_reducible refine H34.out.mono ?_); rintro e w6 ⟨rfl, rfl⟩)
        have c36 := end_any wr q lx fx HR.out.2.2.2.2.2.pu
        obtain ⟨er, her⟩ : ∃ er, er = endV lx fx := ⟨_, rfl⟩
        rw [← her] at c36
        have H36 := Lib.hid c36
        have HER := Lib.hid her
        clear c36 her
        have hrow := HR.out.2.2.2.2.2.row
        obtain ⟨t0, t1, t2⟩ := Tab.row3 hrow
        clear hrow
        have HRE : Hid (Reach (st0 l).2.2 ⟨N, lx, fx, rs⟩) := (by show Reach _ _; rw [HS.out]; exact HR.out.1)
        by_cases her0 : er = 0
        · subst her0
          have c37 := rr_any wr A3 n3 c3 rs HV.out.1 (by omega) HV.out.2 HR.out.2.2.1
          have H37 := Lib.hid c37
          clear c37
          go_wp2_with (first
            | (go_at_call 36; (with_reducible refine H36.out.mono ?_); rintro e w6 ⟨rfl, rfl⟩)
            | (go_at_call 37; (with_reducible refine H37.out.mono ?_); rintro e w7 ⟨bb, rfl, B7, hbb⟩; have HB7 := Lib.hid (And.intro B7 hbb); clear B7 hbb))
          · have HD7 := Lib.hid (HR.out.2.2.2.2.2.step HB7.out.1)
            exact bodyPost_ret (v := .tuple #[.pointer none, .int .i64 4]) (by simp [results, Try.results21, go_sem]) rfl ⟨_, HRE.out, HOFF.out, HD7.out.bl, Or.inl ⟨4, by decide, rfl⟩, fun _ h1 h2 => by have h3 := HB7.out.2 h1 h2; simp_all⟩
          · have HD7 := Lib.hid (HR.out.2.2.2.2.2.step HB7.out.1)
            exact bodyPost_ret (v := .tuple #[.pointer (some ⟨tq, 0, none⟩), .int .i64 0]) (by simp [results, Try.results21, go_sem]) rfl ⟨_, HRE.out, HOFF.out, HD7.out.bl, Or.inr ⟨HER.out.symm, Dc.good HD7.out HS.out⟩, fun _ _ _ => Dc.good HD7.out HS.out⟩
        · have hez : ((er : Int) == 0) = false := by simp; omega
          go_wp2_with (go_at_call 36; (with_reducible refine H36.out.mono ?_); rintro e w6 ⟨rfl, rfl⟩)
          exact bodyPost_ret (v := .tuple #[.pointer none, .int .i64 (er : Int)]) (by simp [results, Try.results21, go_sem]) rfl ⟨_, HRE.out, HOFF.out, HR.out.2.2.2.2.2.bl, Or.inl ⟨er, her0, rfl⟩, fun h => absurd (HER.out.trans h) her0⟩
    · have hN0 : N = 0 := by omega
      have HOFF : Hid (¬ St.on ⟨N, lx, fx, rs⟩) := fun h => h0 h.1
      clear h0
      go_upto_region 9 with (fail)
      have c36 := end_any wr q lx fx HR.out.2.2.2.2.2.pu
      obtain ⟨er, her⟩ : ∃ er, er = endV lx fx := ⟨_, rfl⟩
      rw [← her] at c36
      have H36 := Lib.hid c36
      have HER := Lib.hid her
      clear c36 her
      have hrow := HR.out.2.2.2.2.2.row
      obtain ⟨t0, t1, t2⟩ := Tab.row3 hrow
      clear hrow
      have HRE : Hid (Reach (st0 l).2.2 ⟨N, lx, fx, rs⟩) := (by show Reach _ _; rw [HS.out]; exact HR.out.1)
      by_cases her0 : er = 0
      · subst her0
        have c37 := rr_any wr A3 n3 c3 rs HV.out.1 (by omega) HV.out.2 HR.out.2.2.1
        have H37 := Lib.hid c37
        clear c37
        go_wp2_with (first
          | (go_at_call 36; (with_reducible refine H36.out.mono ?_); rintro e w6 ⟨rfl, rfl⟩)
          | (go_at_call 37; (with_reducible refine H37.out.mono ?_); rintro e w7 ⟨bb, rfl, B7, hbb⟩; have HB7 := Lib.hid (And.intro B7 hbb); clear B7 hbb))
        · have HD7 := Lib.hid (HR.out.2.2.2.2.2.step HB7.out.1)
          exact bodyPost_ret (v := .tuple #[.pointer none, .int .i64 4]) (by simp [results, Try.results21, go_sem]) rfl ⟨_, HRE.out, HOFF.out, HD7.out.bl, Or.inl ⟨4, by decide, rfl⟩, fun _ h1 h2 => by have h3 := HB7.out.2 h1 h2; simp_all⟩
        · have HD7 := Lib.hid (HR.out.2.2.2.2.2.step HB7.out.1)
          exact bodyPost_ret (v := .tuple #[.pointer (some ⟨tq, 0, none⟩), .int .i64 0]) (by simp [results, Try.results21, go_sem]) rfl ⟨_, HRE.out, HOFF.out, HD7.out.bl, Or.inr ⟨HER.out.symm, Dc.good HD7.out HS.out⟩, fun _ _ _ => Dc.good HD7.out HS.out⟩
      · have hez : ((er : Int) == 0) = false := by simp; omega
        go_wp2_with (go_at_call 36; (with_reducible refine H36.out.mono ?_); rintro e w6 ⟨rfl, rfl⟩)
        exact bodyPost_ret (v := .tuple #[.pointer none, .int .i64 (er : Int)]) (by simp [results, Try.results21, go_sem]) rfl ⟨_, HRE.out, HOFF.out, HR.out.2.2.2.2.2.bl, Or.inl ⟨er, her0, rfl⟩, fun h => absurd (HER.out.trans h) her0⟩
end Go.Proofs.Ytcgncecjbkpmkaa.Tab
