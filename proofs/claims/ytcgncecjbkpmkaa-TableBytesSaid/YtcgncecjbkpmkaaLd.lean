/- Contracts: takeRow; are rows right, and do they rise? -/
import Derived.Test.YtcgncecjbkpmkaaLc
namespace Go.Proofs.Ytcgncecjbkpmkaa.Tab
open Pre Ser Chg Coin
open Go.ChangeShapes Go.WideShapes Go.ChangeAt Go.RowKit
set_option maxRecDepth 8000

theorem tk_next (l : List UInt8) (f most : Nat) (hf : f ≤ 12) : ∃ n l' f', takeV l f most = (n, l', f') ∧ n ≤ most ∧ f' ≤ 12 ∧ l'.length ≤ l.length := ⟨_, _, _, rfl, (tk_facts l f most hf).1, (tk_facts l f most hf).2.1, (tk_facts l f most hf).2.2⟩
theorem tkc' {q : Nat} {l l' : List UInt8} {f f' n most : Nat} (e : takeV l f most = (n, l', f')) (hf : f ≤ 12) (hm : most < 18446744073709551616) : TkC 33 #[.pointer (some ⟨q, 0, none⟩), .int .u64 (most : Int)] .u64 q l f n l' f' := by
  have := tkc q l f most hf hm; rwa [e] at this
theorem ser' {q : Nat} {l l' : List UInt8} {f f' n : Nat} (e : takeV l f 65535 = (n, l', f')) (hf : f ≤ 12) : TkC 52 #[.pointer (some ⟨q, 0, none⟩)] .u16 q l f n l' f' := by
  have := take_serial q l f hf; rwa [e] at this
theorem met' {q : Nat} {l l' : List UInt8} {f f' n : Nat} (e : takeV l f 65534 = (n, l', f')) (hf : f ≤ 12) : TkC 53 #[.pointer (some ⟨q, 0, none⟩)] .u16 q l f n l' f' := by
  have := take_metric q l f hf; rwa [e] at this
theorem tr_facts (l : List UInt8) (f : Nat) (hf : f ≤ 12) : (tr l f).1.Fits ∧ (tr l f).2.2 ≤ 12 ∧ (tr l f).2.1.length ≤ l.length := by
  obtain ⟨a, l1, f1, e1, b1, k1, g1⟩ := tk_next l f 4294967295 hf
  obtain ⟨n, l2, f2, e2, b2, k2, g2⟩ := tk_next l1 f1 255 k1
  obtain ⟨s, l3, f3, e3, b3, k3, g3⟩ := tk_next l2 f2 65535 k2
  obtain ⟨m, l4, f4, e4, b4, k4, g4⟩ := tk_next l3 f3 65534 k3
  obtain ⟨v, l5, f5, e5, b5, k5, g5⟩ := tk_next l4 f4 9223372036854775808 k4
  obtain ⟨mt, l6, f6, e6, b6, k6, g6⟩ := tk_next l5 f5 65534 k5
  obtain ⟨sq, l7, f7, e7, b7, k7, g7⟩ := tk_next l6 f6 65535 k6
  simp only [tr, e1, e2, e3, e4, e5, e6, e7]
  split
  · exact ⟨⟨by show a < _; omega, by show n < _; omega, by show 0 < _; decide, by show 0 < _; decide, by show 0 < _; decide, by show s < _; omega, by show m < _; omega⟩, k5, by show l5.length ≤ _; omega⟩
  · exact ⟨⟨by show a < _; omega, by show n < _; omega, by show v - 1 < _; omega, by show mt < _; omega, by show sq < _; omega, by show s < _; omega, by show m < _; omega⟩, k7, by show l7.length ≤ _; omega⟩
theorem take_row (w : World) (q : Nat) (l : List UInt8) (f : Nat) (h : Pur w q l f) (hf : f ≤ 12) :
    Calls Try.prog 35 #[.pointer (some ⟨q, 0, none⟩)] w fun e w' => e = .returned (.agg (tr l f).1.cl.toArray) ∧ Pur w' q (tr l f).2.1 (tr l f).2.2 ∧ w.grownBy w' (some q) := by
  obtain ⟨a, l1, f1, e1, b1, k1, g1⟩ := tk_next l f 4294967295 hf
  obtain ⟨n, l2, f2, e2, b2, k2, g2⟩ := tk_next l1 f1 255 k1
  obtain ⟨s, l3, f3, e3, b3, k3, g3⟩ := tk_next l2 f2 65535 k2
  obtain ⟨m, l4, f4, e4, b4, k4, g4⟩ := tk_next l3 f3 65534 k3
  obtain ⟨v, l5, f5, e5, b5, k5, g5⟩ := tk_next l4 f4 9223372036854775808 k4
  obtain ⟨mt, l6, f6, e6, b6, k6, g6⟩ := tk_next l5 f5 65534 k5
  obtain ⟨sq, l7, f7, e7, b7, k7, g7⟩ := tk_next l6 f6 65535 k6
  simp only [tr, e1, e2, e3, e4, e5, e6, e7]
  split
  · rename_i h0
    subst h0
    exact take_row_no w q l l1 l2 l3 l4 l5 f f1 f2 f3 f4 f5 a n s m h (tkc' e1 hf (by decide)) (tkc' e2 k1 (by decide)) (ser' e3 k2) (met' e4 k3) (tkc' e5 k4 (by decide)) (by omega) (by omega)
  · rename_i h0
    exact take_row_yes w q l l1 l2 l3 l4 l5 l6 l7 f f1 f2 f3 f4 f5 f6 f7 a n s m v mt sq h (tkc' e1 hf (by decide)) (tkc' e2 k1 (by decide)) (ser' e3 k2) (met' e4 k3) (tkc' e5 k4 (by decide)) (met' e6 k5) (ser' e7 k6) (by omega) (by omega) (v - 1) (by omega) (by omega)
def RrSaid (w : World) (rs : List R) (e : Ending) (w' : World) : Prop := ∃ b, e = .returned (.bool b) ∧ Below w.heap.size w w' ∧ (Rising rs → (∀ r ∈ rs, r.Ok) → b = true)
theorem rr_any (w : World) (A : Option Addr) (n cp : Nat) (rs : List R) (hn : n = rs.length) (hlen : n ≤ 1000000) (hsl : RSl w A rs) (hb : ∀ r ∈ rs, r.Fits) :
    Calls Try.prog 37 #[.slice A n cp] w (RrSaid w rs) := by
  have HX := Lib.hid (And.intro hn (And.intro hsl hb))
  clear hn hsl hb
  go_enter Try.func37, Try.ntmps37
  go_wp2
  go_loopw [7] (fun i wr => ∃ j : Nat, j ≤ n ∧ i = .int .i64 j ∧ Below w.heap.size w wr) (fun i _ => n - (intOf i).toNat)
  case atStart => exact ⟨0, by omega, rfl, Below.refl _ _⟩
  case round =>
    obtain ⟨j, hj, rfl, HR⟩ := hrel
    by_cases hlt : j < n
    · have hjl : j < rs.length := by rw [← HX.out.1]; exact hlt
      obtain ⟨bb, oo, ea, hb, hca⟩ := (HX.out.2.1.below HR) j hjl
      subst ea
      have hfit := HX.out.2.2 _ (List.getElem_mem hjl)
      have hright := fun W => Pre.right_any rs[j].addr rs[j].len hfit.1 (by have := hfit.2.1; omega) W
      have hgood : Pre.right rs[j].addr rs[j].len = false → (∀ r ∈ rs, r.Ok) → False := fun h1 h2 => by
        have := (h2 _ (List.getElem_mem hjl)).2.2.2.2.2.2.2.1
        rw [h1] at this; cases this
      have hprev : ∀ (jm : Nat) (h0 : jm + 1 = j), (RAt wr bb (oo + jm * 10) (rs[jm]'(by omega))) ∧ (¬ cmpP (rs[jm]'(by omega)).addr (rs[jm]'(by omega)).len rs[j].addr rs[j].len < 0 → Rising rs → (∀ r ∈ rs, r.Ok) → False) := fun jm h0 => by
        obtain ⟨b2, o2, e2, hb2, hc2⟩ := (HX.out.2.1.below HR) jm (by omega)
        injection e2 with e2; injection e2 with e2 e3
        subst e2 e3
        refine ⟨hc2, fun h1 h2 h3 => h1 ?_⟩
        have l1 := (h3 _ (List.getElem_mem (show jm < rs.length by omega))).2.1
        have l2 := (h3 _ (List.getElem_mem hjl)).2.1
        rw [cmp_lt (by omega) (by omega)]
        exact h2.get (show jm < j by omega) hjl
      obtain ⟨k0, k1, k2, k3, k4, k5, k6, k7, k8, k9⟩ := hca
      generalize rs[j] = r at *
      have HG := Lib.hid (And.intro hright (And.intro hgood hprev))
      clear hright hgood hprev hfit
      cases hrt : Pre.right r.addr r.len
      · have HC := Lib.hid (And.intro HG.out.1 hrt)
        have c55 : ∀ W, Calls Try.prog 55 #[.agg #[.int .u32 (r.addr : Int), .int .u8 (r.len : Int)]] W fun e w' => e = .returned (.bool false) ∧ Below W.heap.size W w' := fun W => by have := HC.out.1 W; rwa [HC.out.2] at this
        have H55 := Lib.hid c55
        clear c55 hrt
        go_wp2_with (go_at_call 55; (with_reducible refine (H55.out _).mono ?_); rintro e w2 ⟨rfl, B2⟩; have HB2 := Lib.hid ((HR.alloc HR.size _).trans (B2.mono (by have := HR.size; simp; omega))); clear B2)
        go_ret
        exact ⟨false, rfl, HB2.out, fun _ h => (HG.out.2.1 HC.out.2 h).elim⟩
      · have HC := Lib.hid (And.intro HG.out.1 hrt)
        have c55 : ∀ W, Calls Try.prog 55 #[.agg #[.int .u32 (r.addr : Int), .int .u8 (r.len : Int)]] W fun e w' => e = .returned (.bool true) ∧ Below W.heap.size W w' := fun W => by have := HC.out.1 W; rwa [HC.out.2] at this
        have H55 := Lib.hid c55
        clear c55 hrt
        have R0 := heap_alloc_new wr (.cells #[.int .u32 (r.addr : Int), .int .u8 (r.len : Int), .bool r.has, .int .u32 (r.addr : Int), .int .u8 (r.len : Int), .int .i64 (r.via : Int), .int .u16 (r.metric : Int), .int .u16 (r.seq : Int), .int .u16 (r.ms : Int), .int .u16 (r.mm : Int)] 43)
        have HR0 := Lib.hid R0
        clear R0
        go_upto_region 6 with (go_at_call 55; (with_reducible refine (H55.out _).mono ?_); rintro e w2 ⟨rfl, B2⟩; have HB2 := Lib.hid (And.intro ((HR.alloc HR.size _).trans (B2.mono (by have := HR.size; simp; omega))) (And.intro ((B2.block wr.heap.size (by simp)).trans HR0.out) (((Below.refl wr.heap.size wr).alloc (Nat.le_refl _) _).trans (B2.mono (by simp))))); clear B2 k0 k1 k2 k3 k4 k5 k6 k7 k8 k9)
        by_cases h0 : 0 < j
        · obtain ⟨jm, hjm, hjm2⟩ : ∃ jm : Nat, (j : Int) - 1 = jm ∧ jm + 1 = j := ⟨j - 1, by omega, by omega⟩
          obtain ⟨hp1, hp2⟩ := HG.out.2.2 jm hjm2
          have hjn : jm < n := by omega
          have hjw : IntKind.i64.wrap (jm : Int) = jm := by rw [IntKind.wrap_i64]; omega
          generalize rs[jm]'_ = r1 at *
          have HP1 := Lib.hid (And.intro hp1 hp2)
          clear hp1 hp2 hjm2 HG
          refine wp_region_noPanic ?_
          refine wp_region_held_drew (S := fun W : World => Below w.heap.size w W ∧ W.heap[wr.heap.size]? = some (.cells #[.int .u32 (r.addr : Int), .int .u8 (r.len : Int), .bool r.has, .int .u32 (r.addr : Int), .int .u8 (r.len : Int), .int .i64 (r.via : Int), .int .u16 (r.metric : Int), .int .u16 (r.seq : Int), .int .u16 (r.ms : Int), .int .u16 (r.mm : Int)] 43 (0, 0)) ∧ Below wr.heap.size wr W) (by kernel_rfl) ⟨HB2.out.1.drew, HB2.out.2.1, HB2.out.2.2.drew⟩ (fun hHeld => ?_)
          generalize w2.drew = wd at *
          refine wpAnyH_take (i := 0) (oi := { dst := some 16, op := Op.move (Operand.tmp 3), type := 3, pos := "bytes.go:102", after := #[], guard := none }) (v := .int .i64 (j : Int)) rfl (by kernel_rfl) (by kernel_rfl) (by kernel_rfl) (fun _ _ _ h => h) (Or.inl ⟨by rfl, fun w hSw => by go_simp⟩) (by assumption) ?_
          try simp only [Act.put, List.setIfInBounds_toArray, List.set_cons_zero, List.set_cons_succ]
          refine wpAnyH_take (i := 1) (oi := { dst := some 17, op := Op.binOp BinOp.gtr 3 (Operand.tmp 16) (Operand.const (Value.int IntKind.i64 0)) 3, type := 4, pos := "bytes.go:102", after := #[{ on := 0, ground := Ground.data }], guard := none }) (v := .bool true) rfl (by kernel_rfl) (by kernel_rfl) (by kernel_rfl) (fun _ _ _ h => h) (Or.inl ⟨by rfl, fun w hSw => by go_simp⟩) (by assumption) ?_
          try simp only [Act.put, List.setIfInBounds_toArray, List.set_cons_zero, List.set_cons_succ]
          refine wpAnyH_take (i := 2) (oi := { dst := some 18, op := Op.move (Operand.tmp 17), type := 4, pos := "bytes.go:102", after := #[{ on := 1, ground := Ground.data }], guard := none }) (v := .bool true) rfl (by kernel_rfl) (by kernel_rfl) (by kernel_rfl) (fun _ _ _ h => h) (Or.inl ⟨by rfl, fun w hSw => by go_simp⟩) (by assumption) ?_
          try simp only [Act.put, List.setIfInBounds_toArray, List.set_cons_zero, List.set_cons_succ]
          refine wpAnyH_take (i := 3) (oi := { dst := some 19, op := Op.move (Operand.tmp 0), type := 48, pos := "bytes.go:102", after := #[{ on := 2, ground := Ground.guard }], guard := some (2, true) }) (v := .slice (some ⟨bb, oo, none⟩) n cp) rfl (by kernel_rfl) (by kernel_rfl) (by kernel_rfl) (fun _ _ _ h => h) (Or.inl ⟨by rfl, fun w hSw => by go_simp⟩) (by assumption) ?_
          try simp only [Act.put, List.setIfInBounds_toArray, List.set_cons_zero, List.set_cons_succ]
          refine wpAnyH_take (i := 4) (oi := { dst := some 20, op := Op.move (Operand.tmp 3), type := 3, pos := "bytes.go:102", after := #[{ on := 2, ground := Ground.guard }], guard := some (2, true) }) (v := .int .i64 (j : Int)) rfl (by kernel_rfl) (by kernel_rfl) (by kernel_rfl) (fun _ _ _ h => h) (Or.inl ⟨by rfl, fun w hSw => by go_simp⟩) (by assumption) ?_
          try simp only [Act.put, List.setIfInBounds_toArray, List.set_cons_zero, List.set_cons_succ]
          refine wpAnyH_take (i := 5) (oi := { dst := some 21, op := Op.binOp BinOp.sub 3 (Operand.tmp 20) (Operand.const (Value.int IntKind.i64 1)) 3, type := 3, pos := "bytes.go:102", after := #[{ on := 4, ground := Ground.data }, { on := 2, ground := Ground.guard }], guard := some (2, true) }) (v := .int .i64 (jm : Int)) rfl (by kernel_rfl) (by kernel_rfl) (by kernel_rfl) (fun _ _ _ h => h) (Or.inl ⟨by rfl, fun w hSw => by go_simp⟩) (by assumption) ?_
          try simp only [Act.put, List.setIfInBounds_toArray, List.set_cons_zero, List.set_cons_succ]
          refine wpAnyH_take (i := 6) (oi := { dst := some 22, op := Op.indexAddr 48 (Operand.tmp 19) (Operand.tmp 21), type := 0, pos := "bytes.go:102", after := #[{ on := 3, ground := Ground.data }, { on := 5, ground := Ground.data }, { on := 2, ground := Ground.guard }], guard := some (2, true) }) (v := .pointer (some ⟨bb, oo + jm * 10, none⟩)) rfl (by kernel_rfl) (by kernel_rfl) (by kernel_rfl) (fun _ _ _ h => h) (Or.inl ⟨by rfl, fun w hSw => by go_simp⟩) (by assumption) ?_
          try simp only [Act.put, List.setIfInBounds_toArray, List.set_cons_zero, List.set_cons_succ]
          refine wpAnyH_take (i := 7) (oi := { dst := some 23, op := Op.fieldAddr 43 (Operand.tmp 22) 0, type := 0, pos := "bytes.go:102", after := #[{ on := 6, ground := Ground.data }, { on := 2, ground := Ground.guard }], guard := some (2, true) }) (v := .pointer (some ⟨bb, oo + jm * 10, none⟩)) rfl (by kernel_rfl) (by kernel_rfl) (by kernel_rfl) (fun _ _ _ h => h) (Or.inl ⟨by rfl, fun w hSw => by go_simp⟩) (by assumption) ?_
          try simp only [Act.put, List.setIfInBounds_toArray, List.set_cons_zero, List.set_cons_succ]
          refine wpAnyH_take (i := 8) (oi := { dst := some 24, op := Op.load 33 (Operand.tmp 23), type := 33, pos := "bytes.go:102", after := #[{ on := 7, ground := Ground.data }, { on := 2, ground := Ground.guard }], guard := some (2, true) }) (v := .agg #[.int .u32 (r1.addr : Int), .int .u8 (r1.len : Int)]) rfl (by kernel_rfl) (by kernel_rfl) (by kernel_rfl) (fun _ _ _ h => h) (Or.inl ⟨by rfl, fun w hSw => by obtain ⟨k0, k1, k2, k3, k4, k5, k6, k7, k8, k9⟩ := HP1.out.1.keep (hSw.2.2.block bb hb); go_simp⟩) (by assumption) ?_
          try simp only [Act.put, List.setIfInBounds_toArray, List.set_cons_zero, List.set_cons_succ]
          refine wpAnyH_take (i := 9) (oi := { dst := some 25, op := Op.fieldAddr 43 (Operand.tmp 4) 0, type := 0, pos := "bytes.go:102", after := #[{ on := 2, ground := Ground.guard }], guard := some (2, true) }) (v := .pointer (some ⟨wr.heap.size, 0, none⟩)) rfl (by kernel_rfl) (by kernel_rfl) (by kernel_rfl) (fun _ _ _ h => h) (Or.inl ⟨by rfl, fun w hSw => by go_simp⟩) (by assumption) ?_
          try simp only [Act.put, List.setIfInBounds_toArray, List.set_cons_zero, List.set_cons_succ]
          refine wpAnyH_take (i := 10) (oi := { dst := some 26, op := Op.load 33 (Operand.tmp 25), type := 33, pos := "bytes.go:102", after := #[{ on := 9, ground := Ground.data }, { on := 2, ground := Ground.guard }], guard := some (2, true) }) (v := .agg #[.int .u32 (r.addr : Int), .int .u8 (r.len : Int)]) rfl (by kernel_rfl) (by kernel_rfl) (by kernel_rfl) (fun _ _ _ h => h) (Or.inl ⟨by rfl, fun w hSw => by obtain ⟨⟨k0, k1, k2, k3, k4, k5, k6, k7, k8, k9⟩, kf⟩ := Tab.row10 hSw.2.1; go_simp⟩) (by assumption) ?_
          try simp only [Act.put, List.setIfInBounds_toArray, List.set_cons_zero, List.set_cons_succ]
          refine wpAnyH_ready (rs := [11]) (by kernel_rfl) (by simp) ?_
          refine AllReadyH.cons (o := { dst := some 27, op := Op.call { callee := Callee.value (Operand.func 46), args := #[Operand.tmp 24, Operand.tmp 26], argTypes := #[33, 33] }, type := 3, pos := "bytes.go:102", after := #[{ on := 8, ground := Ground.data }, { on := 10, ground := Ground.data }, { on := 2, ground := Ground.chain }, { on := 2, ground := Ground.guard }], guard := some (2, true) }) rfl (fun K hK => ?_) AllReadyH.nil
          go_simp
          with_reducible refine (compare_any r1.addr r1.len r.addr r.len _).mono ?_
          rintro e w3 ⟨rfl, B3⟩
          have h3 := hHeld.1.trans (B3.mono hHeld.1.size)
          have h4 : w3.heap[wr.heap.size]? = _ := (B3.block _ (Array.getElem?_eq_some_iff.1 hHeld.2.1).1).trans hHeld.2.1
          have h5 := hHeld.2.2.trans (B3.mono hHeld.2.2.size)
          refine hK.out _ _ (⟨h3, h4, h5⟩) (fun hHeld => ?_)
          clear hK K
          try simp only [Act.put, List.setIfInBounds_toArray, List.set_cons_zero, List.set_cons_succ]
          refine wpAnyH_take (i := 12) (oi := { dst := some 28, op := Op.binOp BinOp.geq 3 (Operand.tmp 27) (Operand.const (Value.int IntKind.i64 0)) 3, type := 4, pos := "bytes.go:102", after := #[{ on := 11, ground := Ground.data }, { on := 2, ground := Ground.guard }], guard := some (2, true) }) (v := .bool (decide (0 ≤ cmpP r1.addr r1.len r.addr r.len))) rfl (by kernel_rfl) (by kernel_rfl) (by kernel_rfl) (fun _ _ _ h => h) (Or.inl ⟨by rfl, fun w hSw => by go_simp⟩) (by assumption) ?_
          try simp only [Act.put, List.setIfInBounds_toArray, List.set_cons_zero, List.set_cons_succ]
          refine wpAnyH_take (i := 13) (oi := { dst := some 29, op := Op.pick (Operand.tmp 18) (Operand.tmp 28) (Operand.const (Value.bool false)), type := 4, pos := "bytes.go:102", after := #[{ on := 2, ground := Ground.data }, { on := 12, ground := Ground.data }], guard := none }) (v := .bool (decide (0 ≤ cmpP r1.addr r1.len r.addr r.len))) rfl (by kernel_rfl) (by kernel_rfl) (by kernel_rfl) (fun _ _ _ h => h) (Or.inl ⟨by rfl, fun w hSw => by go_simp⟩) (by assumption) ?_
          try simp only [Act.put, List.setIfInBounds_toArray, List.set_cons_zero, List.set_cons_succ]
          refine wpAnyH_done (by kernel_rfl) ?_ _
          try unfold NoPanic
          have HE := Lib.hid hHeld.1
          clear hHeld
          by_cases hc : cmpP r1.addr r1.len r.addr r.len < 0
          · have hd : decide (0 ≤ cmpP r1.addr r1.len r.addr r.len) = false := decide_eq_false (by omega)
            clear hc
            go_wp2
            go_roundw
            case rel => exact ⟨j + 1, by omega, by go_num, HE.out⟩
            case measure => simp [intOf]; omega
          · have hd : decide (0 ≤ cmpP r1.addr r1.len r.addr r.len) = true := decide_eq_true (by omega)
            have HNC := Lib.hid hc
            clear hc
            go_wp2
            go_ret
            exact ⟨false, rfl, HE.out, fun h1 h2 => (HP1.out.2 HNC.out h1 h2).elim⟩
        · have hj0 : j = 0 := by omega
          subst hj0
          clear HG
          refine wp_region_noPanic ?_
          refine wp_region_held_drew (S := fun W : World => Below w.heap.size w W ∧ W.heap[wr.heap.size]? = some (.cells #[.int .u32 (r.addr : Int), .int .u8 (r.len : Int), .bool r.has, .int .u32 (r.addr : Int), .int .u8 (r.len : Int), .int .i64 (r.via : Int), .int .u16 (r.metric : Int), .int .u16 (r.seq : Int), .int .u16 (r.ms : Int), .int .u16 (r.mm : Int)] 43 (0, 0)) ∧ Below wr.heap.size wr W) (by kernel_rfl) ⟨HB2.out.1.drew, HB2.out.2.1, HB2.out.2.2.drew⟩ (fun hHeld => ?_)
          generalize w2.drew = wd at *
          refine wpAnyH_take (i := 0) (oi := { dst := some 16, op := Op.move (Operand.tmp 3), type := 3, pos := "bytes.go:102", after := #[], guard := none }) (v := .int .i64 0) rfl (by kernel_rfl) (by kernel_rfl) (by kernel_rfl) (fun _ _ _ h => h) (Or.inl ⟨by rfl, fun w hSw => by go_simp⟩) (by assumption) ?_
          try simp only [Act.put, List.setIfInBounds_toArray, List.set_cons_zero, List.set_cons_succ]
          refine wpAnyH_take (i := 1) (oi := { dst := some 17, op := Op.binOp BinOp.gtr 3 (Operand.tmp 16) (Operand.const (Value.int IntKind.i64 0)) 3, type := 4, pos := "bytes.go:102", after := #[{ on := 0, ground := Ground.data }], guard := none }) (v := .bool false) rfl (by kernel_rfl) (by kernel_rfl) (by kernel_rfl) (fun _ _ _ h => h) (Or.inl ⟨by rfl, fun w hSw => by go_simp⟩) (by assumption) ?_
          try simp only [Act.put, List.setIfInBounds_toArray, List.set_cons_zero, List.set_cons_succ]
          refine wpAnyH_take (i := 2) (oi := { dst := some 18, op := Op.move (Operand.tmp 17), type := 4, pos := "bytes.go:102", after := #[{ on := 1, ground := Ground.data }], guard := none }) (v := .bool false) rfl (by kernel_rfl) (by kernel_rfl) (by kernel_rfl) (fun _ _ _ h => h) (Or.inl ⟨by rfl, fun w hSw => by go_simp⟩) (by assumption) ?_
          try simp only [Act.put, List.setIfInBounds_toArray, List.set_cons_zero, List.set_cons_succ]
          refine wpAnyH_take (i := 3) (oi := { dst := some 19, op := Op.move (Operand.tmp 0), type := 48, pos := "bytes.go:102", after := #[{ on := 2, ground := Ground.guard }], guard := some (2, true) }) (v := undef) rfl (by kernel_rfl) (by kernel_rfl) (by kernel_rfl) (fun _ _ _ h => h) (Or.inr ⟨by rfl, rfl⟩) (by assumption) ?_
          try simp only [Act.put, List.setIfInBounds_toArray, List.set_cons_zero, List.set_cons_succ]
          refine wpAnyH_take (i := 4) (oi := { dst := some 20, op := Op.move (Operand.tmp 3), type := 3, pos := "bytes.go:102", after := #[{ on := 2, ground := Ground.guard }], guard := some (2, true) }) (v := undef) rfl (by kernel_rfl) (by kernel_rfl) (by kernel_rfl) (fun _ _ _ h => h) (Or.inr ⟨by rfl, rfl⟩) (by assumption) ?_
          try simp only [Act.put, List.setIfInBounds_toArray, List.set_cons_zero, List.set_cons_succ]
          refine wpAnyH_take (i := 5) (oi := { dst := some 21, op := Op.binOp BinOp.sub 3 (Operand.tmp 20) (Operand.const (Value.int IntKind.i64 1)) 3, type := 3, pos := "bytes.go:102", after := #[{ on := 4, ground := Ground.data }, { on := 2, ground := Ground.guard }], guard := some (2, true) }) (v := undef) rfl (by kernel_rfl) (by kernel_rfl) (by kernel_rfl) (fun _ _ _ h => h) (Or.inr ⟨by rfl, rfl⟩) (by assumption) ?_
          try simp only [Act.put, List.setIfInBounds_toArray, List.set_cons_zero, List.set_cons_succ]
          refine wpAnyH_take (i := 6) (oi := { dst := some 22, op := Op.indexAddr 48 (Operand.tmp 19) (Operand.tmp 21), type := 0, pos := "bytes.go:102", after := #[{ on := 3, ground := Ground.data }, { on := 5, ground := Ground.data }, { on := 2, ground := Ground.guard }], guard := some (2, true) }) (v := undef) rfl (by kernel_rfl) (by kernel_rfl) (by kernel_rfl) (fun _ _ _ h => h) (Or.inr ⟨by rfl, rfl⟩) (by assumption) ?_
          try simp only [Act.put, List.setIfInBounds_toArray, List.set_cons_zero, List.set_cons_succ]
          refine wpAnyH_take (i := 7) (oi := { dst := some 23, op := Op.fieldAddr 43 (Operand.tmp 22) 0, type := 0, pos := "bytes.go:102", after := #[{ on := 6, ground := Ground.data }, { on := 2, ground := Ground.guard }], guard := some (2, true) }) (v := undef) rfl (by kernel_rfl) (by kernel_rfl) (by kernel_rfl) (fun _ _ _ h => h) (Or.inr ⟨by rfl, rfl⟩) (by assumption) ?_
          try simp only [Act.put, List.setIfInBounds_toArray, List.set_cons_zero, List.set_cons_succ]
          refine wpAnyH_take (i := 8) (oi := { dst := some 24, op := Op.load 33 (Operand.tmp 23), type := 33, pos := "bytes.go:102", after := #[{ on := 7, ground := Ground.data }, { on := 2, ground := Ground.guard }], guard := some (2, true) }) (v := undef) rfl (by kernel_rfl) (by kernel_rfl) (by kernel_rfl) (fun _ _ _ h => h) (Or.inr ⟨by rfl, rfl⟩) (by assumption) ?_
          try simp only [Act.put, List.setIfInBounds_toArray, List.set_cons_zero, List.set_cons_succ]
          refine wpAnyH_take (i := 9) (oi := { dst := some 25, op := Op.fieldAddr 43 (Operand.tmp 4) 0, type := 0, pos := "bytes.go:102", after := #[{ on := 2, ground := Ground.guard }], guard := some (2, true) }) (v := undef) rfl (by kernel_rfl) (by kernel_rfl) (by kernel_rfl) (fun _ _ _ h => h) (Or.inr ⟨by rfl, rfl⟩) (by assumption) ?_
          try simp only [Act.put, List.setIfInBounds_toArray, List.set_cons_zero, List.set_cons_succ]
          refine wpAnyH_take (i := 10) (oi := { dst := some 26, op := Op.load 33 (Operand.tmp 25), type := 33, pos := "bytes.go:102", after := #[{ on := 9, ground := Ground.data }, { on := 2, ground := Ground.guard }], guard := some (2, true) }) (v := undef) rfl (by kernel_rfl) (by kernel_rfl) (by kernel_rfl) (fun _ _ _ h => h) (Or.inr ⟨by rfl, rfl⟩) (by assumption) ?_
          try simp only [Act.put, List.setIfInBounds_toArray, List.set_cons_zero, List.set_cons_succ]
          refine wpAnyH_take (i := 11) (oi := { dst := some 27, op := Op.call { callee := Callee.value (Operand.func 46), args := #[Operand.tmp 24, Operand.tmp 26], argTypes := #[33, 33] }, type := 3, pos := "bytes.go:102", after := #[{ on := 8, ground := Ground.data }, { on := 10, ground := Ground.data }, { on := 2, ground := Ground.chain }, { on := 2, ground := Ground.guard }], guard := some (2, true) }) (v := undef) rfl (by kernel_rfl) (by kernel_rfl) (by kernel_rfl) (fun _ _ _ h => h) (Or.inr ⟨by rfl, rfl⟩) (by assumption) ?_
          try simp only [Act.put, List.setIfInBounds_toArray, List.set_cons_zero, List.set_cons_succ]
          refine wpAnyH_take (i := 12) (oi := { dst := some 28, op := Op.binOp BinOp.geq 3 (Operand.tmp 27) (Operand.const (Value.int IntKind.i64 0)) 3, type := 4, pos := "bytes.go:102", after := #[{ on := 11, ground := Ground.data }, { on := 2, ground := Ground.guard }], guard := some (2, true) }) (v := undef) rfl (by kernel_rfl) (by kernel_rfl) (by kernel_rfl) (fun _ _ _ h => h) (Or.inr ⟨by rfl, rfl⟩) (by assumption) ?_
          try simp only [Act.put, List.setIfInBounds_toArray, List.set_cons_zero, List.set_cons_succ]
          refine wpAnyH_take (i := 13) (oi := { dst := some 29, op := Op.pick (Operand.tmp 18) (Operand.tmp 28) (Operand.const (Value.bool false)), type := 4, pos := "bytes.go:102", after := #[{ on := 2, ground := Ground.data }, { on := 12, ground := Ground.data }], guard := none }) (v := .bool false) rfl (by kernel_rfl) (by kernel_rfl) (by kernel_rfl) (fun _ _ _ h => h) (Or.inl ⟨by rfl, fun w hSw => by go_simp⟩) (by assumption) ?_
          try simp only [Act.put, List.setIfInBounds_toArray, List.set_cons_zero, List.set_cons_succ]
          refine wpAnyH_done (by kernel_rfl) ?_ _
          try unfold NoPanic
          have HE := Lib.hid hHeld.1
          clear hHeld
          go_wp2
          go_roundw
          case rel => exact ⟨0 + 1, by omega, by go_num, HE.out⟩
          case measure => simp [intOf]; omega
    · obtain rfl : j = n := by omega
      go_wp2
      go_ret
      exact ⟨true, rfl, HR, fun _ _ => rfl⟩
end Go.Proofs.Ytcgncecjbkpmkaa.Tab
