/-
  'For every input the Go function milestonelaw05.ShelfRoom returns true, and each argument reads behind the call as it read before.'
  Conditions: none but the row's own (linux/amd64, sizes of what is read within the address space).
-/
import Derived.Test.YtkalgonkaoiapaaRows
import Derived.WalkKit
import Derived.ProofKit
import Derived.OpenShut
import Derived.ShutString
import Derived.ChangeOld
import Derived.Below
import Derived.Lib.SmallJoins
import Derived.Lib.Hide
import Derived.Test.YtkalgonkaoiapaaRgd
namespace Go.Proofs.Ytkalgonkaoiapaa.shelfRoom
open Shf
open Go.ChangeShapes Go.WideShapes Go.ChangeAt Go.RowKit
open Go.ChangeMaps (open_string shut_string)
set_option linter.unusedVariables false

theorem own : ownKnob Try.prog.godebug = none := by kernel_rfl
theorem laidOut : laidOutB Try.prog = true := by kernel_rfl

/-- What the walk is told of a slice of integers that came in. -/
def IsRow (k : IntKind) (w : World) (a : Option Addr) (len cap : Nat) (zs : List Int) : Prop :=
  (a = none ∧ len = 0 ∧ cap = 0 ∧ zs = []) ∨
  ∃ x, a = some x ∧ len ≤ cap ∧ cap ≤ maxLen ∧ zs.length = cap ∧ (∀ i, i < zs.length → w.cell? (x.add i) = some (.int k (zs.getD i 0))) ∧ ∀ n ∈ zs, (Lit.int k n).wf = true

theorem bytes_of {w : World} {a : Option Addr} {len cap : Nat} {z : List Int} (h : IsRow .u8 w a len cap z) : ∃ l : List UInt8, len = l.length ∧ len ≤ maxLen ∧ len ≤ cap ∧ Rd w a l ∧ (a = none → cap = 0) := by
  rcases h with ⟨rfl, rfl, rfl, rfl⟩ | ⟨x, rfl, h1, h2, h3, h4, h5⟩
  · exact ⟨[], rfl, by unfold maxLen; omega, Nat.le_refl _, fun h => by simp at h, fun _ => rfl⟩
  · refine ⟨(z.take len).map fun n => UInt8.ofNat n.toNat, by simp; omega, by omega, h1, fun h0 => ⟨x, rfl, fun j hj => ?_⟩, fun h => by cases h⟩
    simp at hj
    have hz : z[j] ∈ z := List.getElem_mem _
    have hb := bounds_u8 (h5 _ hz)
    have hc := h4 j (by omega)
    have e : z.getD j 0 = z[j] := by rw [List.getD_eq_getElem?_getD, List.getElem?_eq_getElem]; rfl
    rw [e] at hc
    rw [hc]
    simp only [List.getElem_map, List.getElem_take, b8]
    congr 2
    simp; omega


theorem short_new (r : Int) : ShortM (M.new r) := ⟨fun _ hp => (List.not_mem_nil hp).elim, fun _ hv => (List.not_mem_nil hv).elim⟩
/-- Between two acts: no more is used than there is room. -/
def RoomAt (w wr : World) (q g : Nat) (r : Int) (k : Nat) : Prop := ∃ (T : Nat → Tag) (m : M) (cs : Array Value) (x : X), Both w wr T q g m cs x ∧ x.Inv k ∧ m.done ≤ k ∧ m.room = r ∧ ((m.named + m.gone : Nat) : Int) ≤ m.room ∧ Live m ∧ m.many ≤ k ∧ ShortM m
theorem acts_at {w : World} {a : Option Addr} {len : Nat} {ds : List ActD} (h : len = ds.length ∧ ∀ k (hk : k < ds.length), ∃ b o, a = some ⟨b, o, none⟩ ∧ b < w.heap.size ∧ ActAt w b (o + k * 5) ds[k]) {k : Nat} (hk : k < len) : ∃ b o d, a = some ⟨b, o, none⟩ ∧ b < w.heap.size ∧ ActAt w b (o + k * 5) d := by
  obtain ⟨_, h4⟩ := h
  obtain ⟨b, o, e, hb, hd⟩ := h4 k (by omega)
  exact ⟨b, o, _, e, hb, hd⟩
/-- Between two that are thrown away. -/
def DelAt (w wr : World) (q : Nat) (A : Option Addr) (L : List S) (k : Nat) : Prop := ∃ (T : Nat → Tag) (m : M), Rep wr T q m ∧ Below w.heap.size w wr ∧ (∀ b, T b ≠ .none → w.heap.size ≤ b) ∧ LeftOf m L k ∧ Live m ∧ m.done ≤ 60 + k ∧
  ∀ j (hj : j < L.length), ∃ b, A = some ⟨b, 0, none⟩ ∧ T b = .none ∧ b < wr.heap.size ∧ wr.cell? ⟨b, j, none⟩ = some (.string (str L[j]))
theorem DelAt.next {w wr w' : World} {q : Nat} {A : Option Addr} {L : List S} {k : Nat} {T T' : Nat → Tag} {m : M} (hk : k < L.length) (R : Rep wr T q m) (be : Below w.heap.size w wr) (lo : ∀ b, T b ≠ .none → w.heap.size ≤ b) (lf : LeftOf m L k) (lv : Live m) (hd : m.done ≤ 60 + k)
    (hs : ∀ j (hj : j < L.length), ∃ b, A = some ⟨b, 0, none⟩ ∧ T b = .none ∧ b < wr.heap.size ∧ wr.cell? ⟨b, j, none⟩ = some (.string (str L[j]))) (R' : Rep w' T' q (m.delete L[k])) (X : Ext wr T w' T') : DelAt w w' q A L (k + 1) := by
  obtain ⟨h1, h2, h3⟩ := lf.delete hk lv
  refine ⟨T', _, R', be.trans (X.below be.size lo), X.low be.size lo R', h1, h2, by omega, fun j hj => ?_⟩
  obtain ⟨b, e, ht, hb, hc⟩ := hs j hj
  exact ⟨b, e, (X.tags b hb).trans ht, Nat.lt_of_lt_of_le hb X.size, (World.cell?_of_block (a := ⟨b, j, none⟩) (X.block b hb ht)).trans hc⟩

set_option maxRecDepth 8000 in
set_option maxHeartbeats 2000000 in
theorem walk (a0 : Int) (a1 : Option Addr) (len1 cap1 : Nat) (z1 : List ActD) (w : World) (w0 : (Lit.int .u8 a0).wf = true) (w1 : IsActs w a1 len1 cap1 z1) :
    Calls Try.prog 7 #[.int .u8 a0, .slice a1 len1 cap1] w fun e w' => e = .returned (.bool true) ∧ Below w.heap.size w w' := by
  obtain ⟨hl1, hl2, hl3, HA⟩ := w1
  have kr := bounds_u8 w0
  clear w0
  unfold maxLen at hl3
  by_cases h2 : 60 < len1
  · have h2' : (60 : Int) < len1 := by omega
    clear h2 hl1 HA
    go_enter Try.func7, Try.ntmps7
    go_wp2_with fail
    refine (awake_any _).mono ?_
    rintro e w1 ⟨rfl, h1⟩
    go_wp2_with fail
    refine (awake_any _).mono ?_
    rintro e w2 ⟨rfl, h2⟩
    go_wp2_with fail
    go_ret
    exact ⟨rfl, h1.trans (h2.mono h1.size)⟩
  have h2' : ¬ (60 : Int) < len1 := by omega
  have HA' := Lib.hid (And.intro hl1 HA)
  have hl60 : len1 ≤ 60 := by omega
  clear h2 hl1 HA
  go_enter Try.func7, Try.ntmps7
  go_wp2_with (first
    | (go_at_call 9; refine (awake_any _).mono ?_; rintro e w1 ⟨rfl, B0⟩; have c10 := new_rep w1 a0 (by omega))
    | (go_at_call 10; refine c10.mono ?_; rintro e w2 ⟨q, T1, rfl, R1, B1, L1⟩; have hB2 := B0.trans (B1.mono B0.size); have L1 : ∀ k, T1 k ≠ .none → w.heap.size ≤ k := fun k hk => Nat.le_trans B0.size (L1 k hk); have c15 := xnew_any w2 T1 a0 (fun b hb => by obtain ⟨⟨nv, sv, mv, nn, ns, RV⟩, _⟩ := R1; exact RV.old b hb); clear c10)
    | (go_at_call 15; refine c15.mono ?_; rintro e w7 ⟨xv, rfl, RX7, B7⟩; obtain ⟨A1, n1, c1, A2, n2, c2, A3, n3, c3, rm, lf, of, dn, rfl⟩ := RX7.form5; have BT := both_new hB2 L1 R1 B7 RX7; clear RX7 B7 c15 R1 hB2 L1 B1 B0)
    | go_in)
  generalize w7.alloc _ = w8 at *
  generalize w7.heap.size = g at *
  have hS : RoomAt w w8 q g a0 0 := ⟨T1, _, _, _, BT, X.new_inv _, Nat.le_refl _, rfl, (by show ((0 + 0 : Nat) : Int) ≤ a0; omega), ⟨rfl, rfl⟩, Nat.le_refl _, short_new a0⟩
  clear BT
  go_loopw [7] (fun i wr => ∃ k : Nat, k ≤ len1 ∧ i = .int .i64 k ∧ RoomAt w wr q g a0 k) (fun i _ => len1 - (intOf i).toNat)
  case atStart => exact ⟨0, by omega, rfl, hS⟩
  case round =>
    obtain ⟨k, hk, rfl, S⟩ := hrel
    by_cases hlt : k < len1
    · obtain ⟨b0, o0, d, ea, hb0, hd⟩ := acts_at HA'.out hlt
      subst ea
      obtain ⟨T, m, cs, x, BT, IX, hm, hr, hu, hv, hn, hsm⟩ := S
      obtain ⟨A1, n1, c1, A2, n2, c2, A3, n3, c3, rm, lf, of, dn, ecs⟩ := BT.rx.form5
      injection ecs with ecs
      subst ecs
      by_cases h60 : 60 < d.p.length
      · have hcells := act5 hd hb0 BT.be
        obtain ⟨y0, y1, y2, y3, y4⟩ := hcells
        have h60' : (60 : Int) < (d.p.length : Int) := by omega
        go_wp2
        go_ret
        exact ⟨rfl, BT.be⟩
      have h60' : ¬ (60 : Int) < (d.p.length : Int) := by omega
      by_cases h9 : d.K % 12 = 9
      · have hcells := act5 hd hb0 BT.be
        obtain ⟨y0, y1, y2, y3, y4⟩ := hcells
        have h9' : (d.K : Int) % 12 = 9 := by omega
        go_wp2
        go_roundw
        case rel => exact ⟨k + 1, by omega, by go_num, T, m, _, x, BT, IX.mono, by omega, hr, hu, hv, by omega, hsm⟩
        case measure => simp [intOf]; omega
      by_cases h10 : d.K % 12 = 10
      · have hcells := act5 hd hb0 BT.be
        obtain ⟨y0, y1, y2, y3, y4⟩ := hcells
        have h10' : (d.K : Int) % 12 = 10 := by omega
        go_wp2
        go_roundw
        case rel => exact ⟨k + 1, by omega, by go_num, T, m, _, x, BT, IX.mono, by omega, hr, hu, hv, by omega, hsm⟩
        case measure => simp [intOf]; omega
      · have h9' : ((d.K : Int) % 12 == 9) = false := by simp; omega
        have h10' : ((d.K : Int) % 12 == 10) = false := by simp; omega
        have hroom : -1000000000 ≤ m.room := by omega
        have hFi := BT.rp.2
        have HR := Lib.hid hr
        have HU := Lib.hid (And.intro hu (And.intro hv (And.intro hn hsm)))
        clear hr hu hv hn hsm
        obtain ⟨y0, y1, y2, y3, y4⟩ := act5 hd hb0 BT.be
        go_upto_region 12 with (fail)
        clear y0 y1 y2 y3 y4
        refine wp_region_noPanic ?_
        refine wp_region_held_drew (S := fun x : World => Below w.heap.size w x) (by kernel_rfl) (BT.be.drew) (fun hHeld => ?_)
        replace BT := BT.drew
        generalize wr.drew = wd at *
        refine wpAnyH_take (i := 0) (oi := { dst := some 51, op := Op.move (Operand.tmp 5), type := 25, pos := "more.go:23", after := #[], guard := none }) (v := .pointer (some ⟨q, 0, none⟩)) rfl (by kernel_rfl) (by kernel_rfl) (by kernel_rfl) (fun _ _ _ h => h) (Or.inl ⟨by rfl, fun w hSw => by go_simp⟩) (by assumption) ?_
        try simp only [Act.put, List.setIfInBounds_toArray, List.set_cons_zero, List.set_cons_succ]
        refine wpAnyH_take (i := 2) (oi := { dst := some 53, op := Op.move (Operand.tmp 1), type := 23, pos := "more.go:23", after := #[], guard := none }) (v := .slice (some ⟨b0, o0, none⟩) len1 cap1) rfl (by kernel_rfl) (by kernel_rfl) (by kernel_rfl) (fun _ _ _ h => h) (Or.inl ⟨by rfl, fun w hSw => by go_simp⟩) (by assumption) ?_
        try simp only [Act.put, List.setIfInBounds_toArray, List.set_cons_zero, List.set_cons_succ]
        refine wpAnyH_take (i := 3) (oi := { dst := some 54, op := Op.move (Operand.tmp 7), type := 3, pos := "more.go:23", after := #[], guard := none }) (v := .int .i64 (k : Int)) rfl (by kernel_rfl) (by kernel_rfl) (by kernel_rfl) (fun _ _ _ h => h) (Or.inl ⟨by rfl, fun w hSw => by go_simp⟩) (by assumption) ?_
        try simp only [Act.put, List.setIfInBounds_toArray, List.set_cons_zero, List.set_cons_succ]
        refine wpAnyH_take (i := 4) (oi := { dst := some 55, op := Op.indexAddr 23 (Operand.tmp 53) (Operand.tmp 54), type := 0, pos := "more.go:23", after := #[{ on := 2, ground := Ground.data }, { on := 3, ground := Ground.data }], guard := none }) (v := .pointer (some ⟨b0, o0 + k * 5, none⟩)) rfl (by kernel_rfl) (by kernel_rfl) (by kernel_rfl) (fun _ _ _ h => h) (Or.inl ⟨by rfl, fun w hSw => by go_simp⟩) (by assumption) ?_
        try simp only [Act.put, List.setIfInBounds_toArray, List.set_cons_zero, List.set_cons_succ]
        refine wpAnyH_take (i := 5) (oi := { dst := some 56, op := Op.load 38 (Operand.tmp 55), type := 38, pos := "more.go:23", after := #[{ on := 4, ground := Ground.data }], guard := none }) (v := .agg #[.int .u8 (d.K : Int), .int .u8 (d.A : Int), .int .u8 (d.B : Int), .int .i64 d.N, .slice d.Ap d.p.length d.cp]) rfl (by kernel_rfl) (by kernel_rfl) (by kernel_rfl) (fun _ _ _ h => h) (Or.inl ⟨by rfl, fun w hSw => by obtain ⟨y0, y1, y2, y3, y4⟩ := act5 hd hb0 hSw; go_simp⟩) (by assumption) ?_
        try simp only [Act.put, List.setIfInBounds_toArray, List.set_cons_zero, List.set_cons_succ]
        refine wpAnyH_ready (rs := [1]) (by kernel_rfl) (by simp) ?_
        refine AllReadyH.cons (o := { dst := some 52, op := Op.load 35 (Operand.tmp 6), type := 35, pos := "more.go:23", after := #[], guard := none }) rfl (fun K hK => ?_) AllReadyH.nil
        have zz := row7 BT.bx
        have g0 := zz.1
        have g1 := zz.2.1
        have g2 := zz.2.2.1
        have g3 := zz.2.2.2.1
        have g4 := zz.2.2.2.2.1
        have g5 := zz.2.2.2.2.2.1
        have g6 := zz.2.2.2.2.2.2.1
        clear zz
        go_simp
        refine hK.out _ _ (hHeld) (fun hHeld => ?_)
        clear hK K
        try simp only [Act.put, List.setIfInBounds_toArray, List.set_cons_zero, List.set_cons_succ]
        clear g0 g1 g2 g3 g4 g5 g6
        refine wpAnyH_ready (rs := [6]) (by kernel_rfl) (by simp) ?_
        refine AllReadyH.cons (o := { dst := some 57, op := Op.call { callee := Callee.value (Operand.func 16), args := #[Operand.tmp 51, Operand.tmp 52, Operand.tmp 56], argTypes := #[25, 35, 38] }, type := 39, pos := "more.go:23", after := #[{ on := 0, ground := Ground.data }, { on := 1, ground := Ground.data }, { on := 5, ground := Ground.data }], guard := none }) rfl (fun K hK => ?_) AllReadyH.nil
        go_simp
        refine (both_do BT IX (by omega) (by omega) hd (by omega) (by omega)).mono ?_
        rintro e w9 ⟨T9, A4, n4, c4, A5, n5, c5, A6, n6, c6, r9, l9, o9, d9, m9, b9, rfl, hD9, H9, hF9⟩
        refine hK.out _ _ (H9.be) (fun hHeld => ?_)
        clear hK K
        try simp only [Act.put, List.setIfInBounds_toArray, List.set_cons_zero, List.set_cons_succ]
        refine wpAnyH_take (i := 7) (oi := { dst := some 50, op := Op.move (Operand.tmp 57), type := 39, pos := "more.go:23", after := #[{ on := 6, ground := Ground.data }], guard := none }) (v := .tuple #[.agg #[.slice A4 n4 c4, .slice A5 n5 c5, .slice A6 n6 c6, .int .i64 r9, .int .i64 l9, .bool o9, .int .i64 d9], .bool b9]) rfl (by kernel_rfl) (by kernel_rfl) (by kernel_rfl) (fun _ _ _ h => h) (Or.inl ⟨by rfl, fun w hSw => by go_simp⟩) (by assumption) ?_
        try simp only [Act.put, List.setIfInBounds_toArray, List.set_cons_zero, List.set_cons_succ]
        refine wpAnyH_take (i := 8) (oi := { dst := some 58, op := Op.extract (Operand.tmp 50) 0, type := 35, pos := "more.go:23", after := #[{ on := 7, ground := Ground.data }], guard := none }) (v := .agg #[.slice A4 n4 c4, .slice A5 n5 c5, .slice A6 n6 c6, .int .i64 r9, .int .i64 l9, .bool o9, .int .i64 d9]) rfl (by kernel_rfl) (by kernel_rfl) (by kernel_rfl) (fun _ _ _ h => h) (Or.inl ⟨by rfl, fun w hSw => by go_simp⟩) (by assumption) ?_
        try simp only [Act.put, List.setIfInBounds_toArray, List.set_cons_zero, List.set_cons_succ]
        refine wpAnyH_take (i := 9) (oi := { dst := some 59, op := Op.extract (Operand.tmp 50) 1, type := 4, pos := "more.go:23", after := #[{ on := 7, ground := Ground.data }, { on := 10, ground := Ground.gcOnly Departure.lateStores }], guard := none }) (v := .bool b9) rfl (by kernel_rfl) (by kernel_rfl) (by kernel_rfl) (fun _ _ _ h => h) (Or.inl ⟨by rfl, fun w hSw => by go_simp⟩) (by assumption) ?_
        try simp only [Act.put, List.setIfInBounds_toArray, List.set_cons_zero, List.set_cons_succ]
        refine wpAnyH_ready (rs := [10]) (by kernel_rfl) (by simp) ?_
        refine AllReadyH.cons (o := { dst := none, op := Op.store 35 (Operand.tmp 6) (Operand.tmp 58), type := 0, pos := "more.go:23", after := #[{ on := 8, ground := Ground.data }, { on := 6, ground := Ground.chain }, { on := 0, ground := Ground.phase }, { on := 1, ground := Ground.phase }, { on := 2, ground := Ground.phase }, { on := 3, ground := Ground.phase }, { on := 4, ground := Ground.phase }, { on := 5, ground := Ground.phase }, { on := 6, ground := Ground.phase }, { on := 7, ground := Ground.phase }, { on := 8, ground := Ground.phase }, { on := 9, ground := Ground.textOnly Departure.lateStores }], guard := none }) rfl (fun K hK => ?_) AllReadyH.nil
        have zz := row7 H9.bx
        have t0 := zz.1
        have t1 := zz.2.1
        have t2 := zz.2.2.1
        have t3 := zz.2.2.2.1
        have t4 := zz.2.2.2.2.1
        have t5 := zz.2.2.2.2.2.1
        have t6 := zz.2.2.2.2.2.2.1
        have tf := zz.2.2.2.2.2.2.2
        clear zz
        have B10 := put7_both H9
        clear H9
        go_simp
        refine hK.out _ _ (B10.be) (fun hHeld => ?_)
        clear hK K
        try simp only [Act.put, List.setIfInBounds_toArray, List.set_cons_zero, List.set_cons_succ]
        refine wpAnyH_done (by kernel_rfl) ?_ _
        try unfold NoPanic
        have hs9 := hD9.small h10
        have hu9 := hD9.used h9 h10 hFi HU.out.1 HU.out.2.1
        have hm9 := hD9.short HU.out.2.2.2
        have c30 := fun W (RW : Rep W T9 q m9) => used_rep W T9 q m9 RW
        have hle : (((m9.named + m9.gone : Nat) : Int) ≤ a0) := by rw [← HR.out]; exact hu9.1
        have hle' : ¬ a0 < (((m9.named + m9.gone : Nat) : Int)) := by omega
        have hS9 : ∀ n, RoomAt w (World.drewN _ n) q g a0 (k + 1) := fun n => ⟨_, _, _, _, B10.drewN n, doX_inv IX d.K d.A d.B d.N d.p (by omega), by omega, hs9.2.trans HR.out, by rw [hs9.2]; exact hu9.1, hu9.2.1, by have := hu9.2.2; have := HU.out.2.2.1; omega, hm9⟩
        have c30 := c30 _ B10.rp
        clear B10 hu9 hm9 hs9 hle
        generalize (((m9.named + m9.gone : Nat) : Int)) = U at *
        go_wp2_with (first
          | (go_at_call 30; refine c30.mono ?_; rintro e w10 ⟨rfl, n10, rfl⟩; have hS10 := hS9 n10; clear c30 hS9))
        go_roundw
        case rel => exact ⟨k + 1, by omega, by go_num, hS10⟩
        case measure => simp [intOf]; omega
    · obtain rfl : k = len1 := by omega
      obtain ⟨T, m, cs, x, BT, IX, hm, hr, hu, hv, hn, hsm⟩ := S
      have F := BT.rp.2
      have hln : m.list.length ≤ 60 := Nat.le_trans (list_len m) (Nat.le_trans (now_len F) (Nat.le_trans hn hl60))
      have hsl := hsm.list F
      have hlf := LeftOf.all m hv
      have c29 := list_rep wr T q m BT.rp (by omega)
      have hD : ∀ (w3 : World) (A : Option Addr), Below wr.heap.size wr w3 → (∀ j (hj : j < m.list.length), ∃ b, A = some ⟨b, 0, none⟩ ∧ wr.heap.size ≤ b ∧ b < w3.heap.size ∧ w3.cell? ⟨b, j, none⟩ = some (.string (str m.list[j]))) → DelAt w w3 q A m.list 0 := fun w3 A B3 hs => by
        refine ⟨T, m, BT.rp.below B3, BT.be.trans (B3.mono BT.be.size), BT.lo, hlf, hv, by omega, fun j hj => ?_⟩
        obtain ⟨b, e, h1, h2, h3⟩ := hs j hj
        refine ⟨b, e, ?_, h2, h3⟩
        cases et : T b with
        | none => rfl
        | _ =>
          obtain ⟨⟨nv, sv, mv, nn, ns, RV⟩, _⟩ := BT.rp
          exact absurd (RV.old b (by rw [et]; intro h; cases h)) (by omega)
      clear BT IX hr hu hv hn hsm F hlf hm hlt hk
      generalize m.list = L at *
      go_wp2_with (first
        | (go_at_call 29; refine c29.mono ?_; rintro e w3 ⟨v3, rfl, S3, B3⟩; obtain ⟨A3, c3, hv3, hs3⟩ := strs_at S3; subst hv3; have hD := hD w3 A3 B3 hs3; clear c29 S3 B3 hs3)
        | go_in)
      obtain ⟨nL, hnL⟩ : ∃ n, n = L.length := ⟨_, rfl⟩
      rw [← hnL] at hln ⊢
      have HL := Lib.hid hnL
      have HS := Lib.hid hsl
      clear hnL hsl
      go_loopw [10] (fun i wr => ∃ j : Nat, j ≤ nL ∧ i = .int .i64 j ∧ DelAt w wr q A3 L j) (fun i _ => nL - (intOf i).toNat)
      case atStart => exact ⟨0, by omega, rfl, hD⟩
      case round =>
        obtain ⟨j, hj, rfl, S⟩ := hrel
        clear hD
        by_cases hlt : j < nL
        · have hjl : j < L.length := by rw [← HL.out]; exact hlt
          obtain ⟨T, m, R, be, lo, lf, lv, hd, hs⟩ := S
          obtain ⟨b, e, ht, hb, hc⟩ := hs j hjl
          subst e
          have c23 := delete_rep wr T q m L[j] R (by omega) (by have := HS.out _ (List.getElem_mem hjl); omega)
          have nx := fun w' T' => DelAt.next hjl R be lo lf lv hd hs (w' := w') (T' := T')
          generalize L[j] = s at *
          clear R be lo lf hs ht hb
          go_wp2_with (first
            | (go_at_call 23; refine c23.mono ?_; rintro e w4 ⟨rfl, T4, R4, X4⟩; have hD4 := nx w4 T4 R4 X4; clear nx R4 X4))
          go_roundw
          case rel => exact ⟨j + 1, by omega, by go_num, hD4⟩
          case measure => simp [intOf]; omega
        · obtain rfl : j = nL := by omega
          obtain ⟨T, m, R, be, lo, lf, lv, hd, hs⟩ := S
          have hE := LeftOf.none (by rw [HL.out] at lf; exact lf) R.2 lv
          have c14 := names_rep wr T q m R (by omega)
          rw [hE.2.2] at c14
          have HE := Lib.hid (And.intro hE.1 hE.2.1)
          have HB := Lib.hid (And.intro be lo)
          clear R be lo lf hs hE hj hlt
          go_wp2_with (first
            | (go_at_call 14; refine c14.mono ?_; rintro e w5 ⟨rfl, T5, R5, X5⟩; have B5 := HB.out.1.trans (X5.below HB.out.1.size HB.out.2); have c30 := used_rep w5 T5 q _ R5; have c31 := fun n => moves_rep (w5.drewN n) T5 q _ (R5.below ⟨rfl, rfl, rfl, Nat.le_refl _, fun _ _ => rfl⟩); rw [HE.out.1] at c30; rw [HE.out.2] at c31; clear c14 R5 X5)
            | (go_at_call 30; refine c30.mono ?_; rintro e w6 ⟨rfl, n6, rfl⟩; have c31 := c31 n6; clear c30)
            | (go_at_call 31; refine c31.mono ?_; rintro e w7 ⟨rfl, rfl⟩; clear c31))
          go_ret
          exact ⟨rfl, ⟨B5.os, B5.tape, B5.output, B5.size, B5.block⟩⟩

set_option maxRecDepth 100000 in
theorem lifted (os : Os) (started : os.Started) (H : Type) (enc : TypeId × Value → H) :
    ReturnsInHanded {} Try.checked os 7 .any (Rows.shelfRoomSpec.pre6 enc Try.prog Try.f7 Rows.shelfRoomRow.domain false) (Rows.shelfRoomSpec.post enc Try.prog Try.f7 false true false false) := by
  refine returnsInHanded_of_change (C := Try.checked) own started (by kernel_rfl) Try.func7
    (ChangeSpec.witness6 (enc := enc) (C := Try.checked) false ⟨#[], #[.int .u8 0, .slice none 0 0], []⟩ 8 (by kernel_rfl) (by kernel_rfl) (by kernel_rfl) (by kernel_rfl)) ?_
  intro W base args ds gs before hval0 hW hcnd _
  have hval : ∀ (j : Nat) t v, Try.f7.params[j]? = some t → args[j]? = some v → Value.okWide Try.prog W .any base t v := hval0
  have hW' := hW
  obtain ⟨p, q, hA0, hV, rfl, hfz, hnd⟩ := hW
  have hA : DataW.TrodAll enc Try.prog W 0 (fun _ => true) true Try.f7.params.toList args.toList ds p := hA0
  rw [Try.params7] at hA hval
  obtain ⟨v0, vs0, d0, ds0, p0, q0, hargs, rfl, rfl, h0, r0⟩ := trodAll_cons hA
  obtain ⟨v1, vs1, d1, ds1, p1, q1, rfl, rfl, rfl, h1, r1⟩ := trodAll_cons r0
  obtain ⟨rfl, rfl, rfl⟩ := trodAll_nil r1
  obtain rfl : args = #[v0, v1] := by cases args; simp_all
  obtain ⟨rfl, rfl⟩ := trodVars_none hV
  obtain ⟨a0, rfl, rfl, rfl, w0⟩ := open_int Try.underlying5 (hval 0 5 v0 rfl rfl) h0
  obtain ⟨a1, len1, cap1, rfl⟩ := okWide_slice Try.underlying23 (hval 1 23 v1 rfl rfl)
  have k1 := h1
  have lt1 : ∀ x ∈ p1, x.block < W.heap.size := by obtain ⟨m, hm⟩ := k1; exact DataW.trod_lt m _ _ _ hm
  obtain ⟨z1, w1⟩ : ∃ zs, IsActs W a1 len1 cap1 zs := by
    obtain ⟨fuel, hf⟩ := h1
    obtain ⟨a, l, c, ds, hcs, hds⟩ := acts_of hf
    simp [Value.cells] at hcs
    obtain ⟨rfl, rfl, rfl⟩ := hcs
    exact ⟨ds, hds⟩
  clear hA0 hval0
  refine (walk a0 a1 len1 cap1 z1 W w0 w1).mono fun e W' ⟨he, bel⟩ => ?_
  subst he
  exact ⟨_, rfl, _, _, _, [], _, [], hW', trodAll_mk1 (shut_bool Try.underlying4 _), (trodAll_cons_mk (shut_int Try.underlying5 w0) (trodAll_cons_mk (Below.trod laidOut (by kernel_rfl) (of_decide_eq_true (by kernel_rfl)) k1 bel lt1) trodAll_mk0)), rfl, bel.frame _, fun h => by cases h⟩

theorem over : Rows.shelfRoomRow.holds Try.pinned (OpenSpec.ofChange Rows.shelfRoomSpec) :=
  OpenClaim.holds_of_wide 7 Try.f7 rfl rfl rfl rfl rfl rfl rfl ⟨rfl, rfl, rfl, rfl, rfl⟩ rfl rfl rfl rfl rfl (by kernel_rfl) Try.func7 (by kernel_rfl)
    (of_decide_eq_true (by kernel_rfl)) (by unfold Func.isWrapper; first | (rw [if_pos (by decide +kernel)]; kernel_rfl) | (rw [if_neg (by decide +kernel)]; exact ⟨rfl, rfl⟩))
    (fun os started H enc _ => lifted os started H enc)

theorem proved : Rows.ShelfRoomSaid := over
#print axioms proved
end Go.Proofs.Ytkalgonkaoiapaa.shelfRoom
