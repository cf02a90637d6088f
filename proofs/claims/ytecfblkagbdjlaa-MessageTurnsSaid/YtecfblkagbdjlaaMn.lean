/- The document's bytes of a part. -/
import Derived.Test.YtecfblkagbdjlaaMm
import Derived.Lib.AppendZeros
namespace Go.Proofs.Ytecfblkagbdjlaa.Msg
open Go.ChangeShapes Go.WideShapes Go.ChangeAt Go.RowKit
open Coin (coin sz b8 Rd Row Own CoinOwn put_any sz_le length_coin rcoin_own app_any info5 one_b8)
set_option maxRecDepth 8000
set_option linter.unusedVariables false

theorem rcoins_any (w : World) (b k : Nat) (ns : List Nat) (hb : w.heap[b]? = some (.cells (ns.map fun n : Nat => Value.int .u64 (n : Int)).toArray 22 (0, 0))) (hns : ∀ n ∈ ns, n < 18446744073709551616) (hk : k = ns.length) (hlen : k ≤ 100) :
    Calls Try.prog 24 #[.slice (some ⟨b, 0, none⟩) k k] w (CoinOwn w (coins ns)) := by
  have HK := Lib.hid (And.intro hk (And.intro hb hns))
  have hbl : b < w.heap.size := (Array.getElem?_eq_some_iff.1 hb).1
  clear hk hb hns
  go_enter Try.func24, Try.ntmps24
  go_wp2
  go_loopw [3, 4] (fun p i wr => ∃ j : Nat, j ≤ k ∧ i = .int .i64 j ∧ Hid (Own wr w.heap.size p (coins (ns.take j)) ∧ Below w.heap.size w wr)) (fun _ i _ => k - (intOf i).toNat)
  case atStart => exact ⟨0, by omega, rfl, ⟨Own.nil _ _, Below.refl _ _⟩⟩
  case round =>
    obtain ⟨j, hj, rfl, HR⟩ := hrel
    by_cases hlt : j < k
    · have hjl : j < ns.length := by rw [← HK.out.1]; exact hlt
      have hnj := HK.out.2.2 _ (List.getElem_mem hjl)
      have c0 : wr.cell? ⟨b, j, none⟩ = some (.int .u64 (ns[j] : Int)) := by
        rw [World.cell?_of_block (HR.out.2.block b hbl), cell_of_row w b j _ 22 (0, 0) HK.out.2.1]
        simp [hjl]
      have hnx : coins (ns.take (j + 1)) = coins (ns.take j) ++ coin ns[j] := by
        unfold coins
        rw [List.take_succ_eq_append_getElem hjl, List.flatMap_append]
        simp
      have hcl := coins_len (ns.take j)
      have htl : (ns.take j).length = j := by rw [List.length_take]; omega
      rw [htl] at hcl
      obtain ⟨A, c, hv, -, -, -⟩ := HR.out.1.form
      have hput := rcoin_own ns[j] hnj wr
      obtain ⟨m, hm⟩ : ∃ m, m = (coins (ns.take j)).length := ⟨_, rfl⟩
      rw [← hm] at hv hcl
      generalize ns[j] = n at *
      have hsz := sz_le n
      have HP := Lib.hid hput
      have HX := Lib.hid (And.intro hnx hm)
      clear hnx hput hnj htl hm
      subst hv
      go_wp2_with (first
        | (go_at_call 15; (with_reducible refine HP.out.mono ?_); rintro e w4 ⟨v4, rfl, O4, B4⟩; obtain ⟨A4, c4, hv4, hrd4, -, hn4⟩ := O4.form; obtain ⟨m4, hm4⟩ : ∃ m4, m4 = (coin n).length := ⟨_, rfl⟩; rw [← hm4] at hv4; subst hv4; have HZ4 := Lib.hid (And.intro (And.intro hrd4 (And.intro hm4 hn4)) (And.intro (HR.out.1.kept B4) (HR.out.2.trans (B4.mono HR.out.2.size)))); clear O4 B4 hrd4 hm4 hn4)
        | (at_builtin; refine app_any rfl (.tmp 11) (.tmp 16) rfl w.heap.size _ (coins (ns.take j)) (coin n) A4 m4 c4 w4.heap.size rfl rfl HZ4.out.2.1 HZ4.out.1.1 HZ4.out.1.2.1 HZ4.out.1.2.2 (by have := HX.out.2; rw [length_coin]; omega) HZ4.out.2.2.size w.heap.size w HZ4.out.2.2 (Nat.le_refl _) ?_; intro v5 w5 O5 B5 _; have HZ5 := Lib.hid (And.intro O5 B5); clear O5 B5))
      go_roundw
      case rel => exact ⟨j + 1, by omega, by go_num, ⟨by rw [HX.out.1]; exact HZ5.out.1, HZ5.out.2⟩⟩
      case measure => simp [intOf]; omega
    · obtain rfl : j = k := by omega
      go_wp2
      go_ret
      have := HR.out.1
      rw [List.take_of_length_le (by have := HK.out.1; omega)] at this
      exact ⟨_, rfl, this, HR.out.2⟩
theorem _root_.Go.Proofs.Ytecfblkagbdjlaa.Coin.Own.rd {w : World} {B : Nat} {A : Option Addr} {m c : Nat} {l : List UInt8} (h : Own w B (.slice A m c) l) : Rd w w.heap.size A l := by
  obtain ⟨A', c', e, h1, -, -⟩ := h.form
  injection e with e1 e2 e3
  subst e1
  exact h1
theorem app_run {w : World} (B : Nat) (v : Value) (l r : List UInt8) (A : Option Addr) (m c : Nat) {Bx : Nat} (hown : Own w B v l) (hr : Rd w Bx A r) (hm : m = r.length) (hA : A = none → c = 0) (hlen : l.length + r.length ≤ 1000000) (hB : B ≤ w.heap.size) :
    ∃ v' w', (Builtin.append_ #[30, 30] 30 #[v, .slice A m c]).run Try.prog w = .ok v' w' ∧ Own w' B v' (l ++ r) ∧ w.grownBy w' v.ownBlock := by
  obtain ⟨i0, hi, hz0, hz1, hz2⟩ := info_parts info5
  subst hm
  rcases A with _ | ad
  · have h0 : r = [] := by
      rcases r with _ | ⟨b, r⟩
      · rfl
      · obtain ⟨ad, h, _⟩ := hr (by simp); cases h
    subst h0
    obtain rfl := hA rfl
    have hrun := run_append_owned_none (P := Try.prog) (w := w) B 30 30 5 i0 1 Try.underlying30 hi v l.length (l.map b8) hown
    exact ⟨v, w, hrun, by simpa using hown, World.grownBy.refl w _⟩
  · have hc : ∀ j u, (r.map b8)[j]? = some u → w.cell? (ad.add j) = some u := by
      intro j u hj
      by_cases h0 : 0 < r.length
      · obtain ⟨ad', e, h⟩ := hr.src h0
        injection e with e
        subst e
        exact h j u hj
      · obtain rfl : r = [] := List.eq_nil_of_length_eq_zero (by omega)
        simp at hj
    obtain ⟨v', w', hrun, h1, h2, -⟩ := run_append_own_at (P := Try.prog) w B 30 30 5 i0 (.int .u8 0) 1 1 Try.underlying30 hi hz0 hz1 hz2 rfl (by decide) v l.length (l.map b8) hown ad r.length c (r.map b8) (by simp) hc (one_b8 r) (by unfold maxLen; omega) (by omega) hB
    exact ⟨v', w', hrun, by simpa [Own] using h1, h2⟩
theorem own_ne2 {w : World} {B g n c : Nat} {v : Value} {l : List UInt8} (h : Own w B v l) (hg : w.heap.size ≤ g) : v.ownBlock = none ∨ v.ownBlock ≠ (Value.slice (some ⟨g, 0, none⟩) n c).ownBlock := by
  refine .inr fun e => ?_
  have := (h.lt g (by rw [e]; rfl)).2
  omega
set_option maxHeartbeats 2000000 in
theorem byt1 (n d a l s m : Nat) (hn : n < 18446744073709551616) (hd : d < 16) (ha : a < 4294967296) (hl : l < 256) (hs : s < 65536) (hm : m < 65536) (kb : UInt8) (hkb : 1 = kb.toNat) (w : World) :
    Calls Try.prog 11 #[.agg #[.int .u8 1, .int .u64 (n : Int), .int .i64 (d : Int), .int .u32 (a : Int), .int .u8 (l : Int), .int .u16 (s : Int), .int .u16 (m : Int)]] w (CoinOwn w (kb :: (coin (coins [n]).length ++ coins [n]))) := by
  have B0 : Below w.heap.size w (w.alloc (.cells #[.int .u8 1, .int .u64 (n : Int), .int .i64 (d : Int), .int .u32 (a : Int), .int .u8 (l : Int), .int .u16 (s : Int), .int .u16 (m : Int)] 28)) := (Below.refl w.heap.size w).alloc (Nat.le_refl _) _
  have R0 := heap_alloc_new w (.cells #[.int .u8 1, .int .u64 (n : Int), .int .i64 (d : Int), .int .u32 (a : Int), .int .u8 (l : Int), .int .u16 (s : Int), .int .u16 (m : Int)] 28)
  have R1 := heap_alloc_new (w.alloc (.cells #[.int .u8 1, .int .u64 (n : Int), .int .i64 (d : Int), .int .u32 (a : Int), .int .u8 (l : Int), .int .u16 (s : Int), .int .u16 (m : Int)] 28)) (.cells #[.int .u64 (n : Int)] 22)
  rw [show (w.alloc (.cells #[.int .u8 1, .int .u64 (n : Int), .int .i64 (d : Int), .int .u32 (a : Int), .int .u8 (l : Int), .int .u16 (s : Int), .int .u16 (m : Int)] 28)).heap.size = w.heap.size + 1 by simp] at R1
  have hc24 : ∀ W b, W.heap[b]? = some (.cells #[.int .u64 (n : Int)] 22 (0, 0)) → Calls Try.prog 24 #[.slice (some ⟨b, 0, none⟩) 1 1] W (CoinOwn W (coins [n])) := fun W b hb => rcoins_any W b 1 [n] hb (by intro k hk; simp at hk; omega) rfl (by decide)
  have hcl := coins_len [n]
  simp only [List.length_cons, List.length_nil] at hcl
  have hw1 : IntKind.u64.wrap (d : Int) = d := by rw [wrap_u64]; omega
  have hw2 : IntKind.u64.wrap (m : Int) = m := by rw [wrap_u64]; omega
  have hw3 : IntKind.u64.wrap (a : Int) = a := by rw [wrap_u64]; omega
  have hw4 : IntKind.u64.wrap (l : Int) = l := by rw [wrap_u64]; omega
  have hw5 : IntKind.u64.wrap (s : Int) = s := by rw [wrap_u64]; omega
  generalize coins [n] = bs at *
  obtain ⟨m3, hm3⟩ : ∃ m3, m3 = bs.length := ⟨_, rfl⟩
  have HX := Lib.hid (And.intro hc24 (And.intro B0 (And.intro R0 (And.intro R1 hm3))))
  rw [← hm3] at hcl
  have hw6 : IntKind.u64.wrap (m3 : Int) = m3 := by rw [wrap_u64]; omega
  have HCn : Hid (∀ W : World, Calls Try.prog 15 #[.int .u64 (m3 : Int)] W (CoinOwn W (coin m3))) := fun W => rcoin_own m3 (by omega) W
  have HKb := Lib.hid hkb
  clear hc24 B0 R0 R1 hm3 hkb
  go_enter Try.func11, Try.ntmps11
  go_upto_region 10 with (go_at_call 24; (with_reducible refine (HX.out.1 _ (w.heap.size + 1) HX.out.2.2.2.1).mono ?_); (rintro e w2 ⟨v3, rfl, O3, B3⟩; obtain ⟨A3, c3, hv3, -, -, hn3⟩ := O3.form; rw [← HX.out.2.2.2.2] at hv3; subst hv3; have HW : Hid (w2.heap[w.heap.size]? = some (.cells #[.int .u8 1, .int .u64 (n : Int), .int .i64 (d : Int), .int .u32 (a : Int), .int .u8 (l : Int), .int .u16 (s : Int), .int .u16 (m : Int)] 28 (0, 0)) ∧ w.heap.size < w2.heap.size ∧ Own w2 _ (.slice A3 m3 c3) bs ∧ (m3 = bs.length ∧ (A3 = none → c3 = 0)) ∧ Below w.heap.size w w2) := ⟨(B3.block w.heap.size (by simp; omega)).trans ((heap_alloc_old _ _ (by simp)).trans HX.out.2.2.1), Nat.lt_of_lt_of_le (by simp; omega) B3.size, O3, ⟨HX.out.2.2.2.2, hn3⟩, (HX.out.2.1.alloc (by simp) _).trans (B3.mono (by simp; omega))⟩; clear O3 B3 hn3))
  refine wp_region_noPanic ?_
  refine wp_region_held_drew (S := fun W : World => W.heap[w.heap.size]? = some (.cells #[.int .u8 1, .int .u64 (n : Int), .int .i64 (d : Int), .int .u32 (a : Int), .int .u8 (l : Int), .int .u16 (s : Int), .int .u16 (m : Int)] 28 (0, 0))) (by kernel_rfl) HW.out.1 (fun hHeld => ?_)
  have hb : Below w2.heap.size w2 w2.drew := (Below.refl _ w2).drew
  generalize w2.drew = wd at *
  refine wpAnyH_take (i := 0) (oi := { dst := some 58, op := Op.fieldAddr 28 (Operand.tmp 1) 0, type := 0, pos := "law.go:60", after := #[], guard := none }) (v := .pointer (some ⟨w.heap.size, 0, none⟩)) rfl (by kernel_rfl) (by kernel_rfl) (by kernel_rfl) (fun _ _ _ h => h) (Or.inl ⟨by rfl, fun w hSw => by go_simp⟩) (by assumption) ?_
  try simp only [Act.put, List.setIfInBounds_toArray, List.set_cons_zero, List.set_cons_succ]
  refine wpAnyH_take (i := 1) (oi := { dst := some 59, op := Op.load 5 (Operand.tmp 58), type := 5, pos := "law.go:60", after := #[{ on := 0, ground := Ground.data }], guard := none }) (v := .int .u8 1) rfl (by kernel_rfl) (by kernel_rfl) (by kernel_rfl) (fun _ _ _ h => h) (Or.inl ⟨by rfl, fun w hSw => by obtain ⟨⟨q0, q1, q2, q3, q4, q5, q6⟩, -⟩ := row7 hSw; go_simp⟩) (by assumption) ?_
  try simp only [Act.put, List.setIfInBounds_toArray, List.set_cons_zero, List.set_cons_succ]
  refine wpAnyH_take (i := 3) (oi := { dst := some 61, op := Op.move (Operand.tmp 3), type := 30, pos := "law.go:60", after := #[], guard := none }) (v := .slice A3 m3 c3) rfl (by kernel_rfl) (by kernel_rfl) (by kernel_rfl) (fun _ _ _ h => h) (Or.inl ⟨by rfl, fun w hSw => by go_simp⟩) (by assumption) ?_
  try simp only [Act.put, List.setIfInBounds_toArray, List.set_cons_zero, List.set_cons_succ]
  refine wpAnyH_take (i := 4) (oi := { dst := some 62, op := Op.call { callee := Callee.builtin Builtin.len, args := #[Operand.tmp 61], argTypes := #[30] }, type := 3, pos := "law.go:60", after := #[{ on := 3, ground := Ground.data }], guard := none }) (v := .int .i64 (m3 : Int)) rfl (by kernel_rfl) (by kernel_rfl) (by kernel_rfl) (fun _ _ _ h => h) (Or.inl ⟨by rfl, fun w hSw => by go_simp⟩) (by assumption) ?_
  try simp only [Act.put, List.setIfInBounds_toArray, List.set_cons_zero, List.set_cons_succ]
  refine wpAnyH_take (i := 5) (oi := { dst := some 63, op := Op.convert 3 22 (Operand.tmp 62), type := 22, pos := "law.go:60", after := #[{ on := 4, ground := Ground.data }], guard := none }) (v := .int .u64 (m3 : Int)) rfl (by kernel_rfl) (by kernel_rfl) (by kernel_rfl) (fun _ _ _ h => h) (Or.inl ⟨by rfl, fun w hSw => by go_simp⟩) (by assumption) ?_
  try simp only [Act.put, List.setIfInBounds_toArray, List.set_cons_zero, List.set_cons_succ]
  refine wpAnyH_take (i := 8) (oi := { dst := some 66, op := Op.move (Operand.tmp 3), type := 30, pos := "law.go:60", after := #[], guard := none }) (v := .slice A3 m3 c3) rfl (by kernel_rfl) (by kernel_rfl) (by kernel_rfl) (fun _ _ _ h => h) (Or.inl ⟨by rfl, fun w hSw => by go_simp⟩) (by assumption) ?_
  try simp only [Act.put, List.setIfInBounds_toArray, List.set_cons_zero, List.set_cons_succ]
  refine wpAnyH_ready (rs := [2, 6]) (by kernel_rfl) (by simp) ?_
  refine (AllReadyH.cons (o := { dst := some 60, op := Op.buildSlice 30 1 #[(0, Operand.tmp 59)], type := 30, pos := "law.go:60", after := #[{ on := 1, ground := Ground.data }], guard := none }) rfl (fun K hK => ?_) (AllReadyH.cons (o := { dst := some 64, op := Op.call { callee := Callee.value (Operand.func 15), args := #[Operand.tmp 63], argTypes := #[22] }, type := 30, pos := "law.go:60", after := #[{ on := 5, ground := Ground.data }], guard := none }) rfl (fun K hK => ?_) AllReadyH.nil))
  · go_simp
    have RK := one_row wd kb 1 HKb.out
    have hgk : w2.heap.size ≤ wd.heap.size := hb.size
    have hb1 : Below wd.heap.size wd (wd.alloc (.cells #[.int .u8 1] 5)) := (Below.refl _ _).alloc (Nat.le_refl _) _
    obtain ⟨g, hg⟩ : ∃ g, g = wd.heap.size := ⟨_, rfl⟩
    try (replace O4 := O4.kept hb1)
    replace hb := hb.trans (hb1.mono hb.size)
    rw [← hg] at RK hgk ⊢
    clear hg hb1
    generalize wd.alloc _ = wd at *
    refine hK.out _ _ ((hb.block w.heap.size HW.out.2.1).trans HW.out.1) (fun hHeld => ?_)
    clear hK K
    try simp only [Act.put, List.setIfInBounds_toArray, List.set_cons_zero, List.set_cons_succ]
    refine wpAnyH_ready (rs := [6]) (by kernel_rfl) (by simp) ?_
    refine AllReadyH.cons (o := { dst := some 64, op := Op.call { callee := Callee.value (Operand.func 15), args := #[Operand.tmp 63], argTypes := #[22] }, type := 30, pos := "law.go:60", after := #[{ on := 5, ground := Ground.data }], guard := none }) rfl (fun K hK => ?_) AllReadyH.nil
    go_simp
    with_reducible refine (HCn.out _).mono ?_
    rintro e wd ⟨v4, rfl, O4, B4⟩
    try (replace RK : Row wd g [kb] := (B4.block g RK.lt).trans RK)
    replace hb := hb.trans (B4.mono hb.size)
    obtain ⟨A4, c4, hv4, -, -, hn4⟩ := O4.form
    obtain ⟨m4, hm4⟩ : ∃ m4, m4 = (coin m3).length := ⟨_, rfl⟩
    rw [← hm4] at hv4
    subst hv4
    have HN4 := Lib.hid (And.intro hm4 hn4)
    clear hm4 hn4 B4
    refine hK.out _ _ ((hb.block w.heap.size HW.out.2.1).trans HW.out.1) (fun hHeld => ?_)
    clear hK K
    try simp only [Act.put, List.setIfInBounds_toArray, List.set_cons_zero, List.set_cons_succ]
    refine wpAnyH_ready (rs := [7]) (by kernel_rfl) (by simp) ?_
    refine AllReadyH.cons (o := { dst := some 65, op := Op.call { callee := Callee.builtin Builtin.append, args := #[Operand.tmp 60, Operand.tmp 64], argTypes := #[30, 30] }, type := 30, pos := "law.go:60", after := #[{ on := 2, ground := Ground.data }, { on := 6, ground := Ground.data }, { on := 6, ground := Ground.chain }], guard := none }) rfl (fun K hK => ?_) AllReadyH.nil
    have OK1 := RK.own (B := w.heap.size + 1) (Nat.le_trans HW.out.2.1 hgk) (by show 1 ≤ _; omega)
    obtain ⟨v5, w5, hrun, O5, G5⟩ := app_run (w := wd) (w.heap.size + 1) (.slice (some ⟨g, 0, none⟩) 1 1) [kb] (coin m3) A4 m4 c4 OK1 (O4.rd) HN4.out.1 HN4.out.2 (by have := sz_le m3; rw [length_coin]; simp; omega) (Nat.le_trans HW.out.2.1 hb.size)
    refine Lib.wp_append_run _ (.tmp 60) (.tmp 64) 30 30 rfl _ _ rfl rfl _ _ hrun ?_
    have O3 := (HW.out.2.2.1.kept hb).keptG G5 (own_ne2 HW.out.2.2.1 hgk)
    have hB5 : Below w.heap.size w w5 := (HW.out.2.2.2.2.trans (hb.mono HW.out.2.2.2.2.size)).grown G5 (Nat.le_trans HW.out.2.2.2.2.size hb.size) (fun k h => by (simp only [Value.ownBlock, Option.some.injEq] at h); subst h; exact Nat.le_trans HW.out.2.2.2.2.size hgk)
    have hrow : w5.heap[w.heap.size]? = some (.cells #[.int .u8 1, .int .u64 (n : Int), .int .i64 (d : Int), .int .u32 (a : Int), .int .u8 (l : Int), .int .u16 (s : Int), .int .u16 (m : Int)] 28 (0, 0)) := (G5.block w.heap.size (Nat.lt_of_lt_of_le HW.out.2.1 hb.size) (by simp only [Value.ownBlock]; intro h; injection h with h; have := HW.out.2.1; omega)).trans ((hb.block w.heap.size HW.out.2.1).trans HW.out.1)
    obtain ⟨A5, c5, hv5, -, -, -⟩ := O5.form
    obtain ⟨m5, hm5⟩ : ∃ m5, m5 = ([kb] ++ coin m3).length := ⟨_, rfl⟩
    rw [← hm5] at hv5
    subst hv5
    clear hm5
    refine hK.out _ _ hrow (fun hHeld => ?_)
    clear hK K
    try simp only [Act.put, List.setIfInBounds_toArray, List.set_cons_zero, List.set_cons_succ]
    refine wpAnyH_ready (rs := [9]) (by kernel_rfl) (by simp) ?_
    refine AllReadyH.cons (o := { dst := some 67, op := Op.call { callee := Callee.builtin Builtin.append, args := #[Operand.tmp 65, Operand.tmp 66], argTypes := #[30, 30] }, type := 30, pos := "law.go:60", after := #[{ on := 7, ground := Ground.data }, { on := 8, ground := Ground.data }, { on := 7, ground := Ground.chain }], guard := none }) rfl (fun K hK => ?_) AllReadyH.nil
    obtain ⟨v6, w6, hrun6, O6, G6⟩ := app_run (w := w5) (w.heap.size + 1) (.slice A5 m5 c5) ([kb] ++ coin m3) bs A3 m3 c3 O5 O3.rd HW.out.2.2.2.1.1 HW.out.2.2.2.1.2 (by have := sz_le m3; have := HW.out.2.2.2.1.1; rw [List.length_append, length_coin]; simp; omega) (Array.getElem?_eq_some_iff.1 hrow).1
    refine Lib.wp_append_run _ (.tmp 65) (.tmp 66) 30 30 rfl _ _ rfl rfl _ _ hrun6 ?_
    have hB6 : Below w.heap.size w w6 := hB5.grown G6 hB5.size (fun k h => Nat.le_trans (Nat.le_succ _) (O5.lt k h).1)
    have hrow6 : w6.heap[w.heap.size]? = some (.cells #[.int .u8 1, .int .u64 (n : Int), .int .i64 (d : Int), .int .u32 (a : Int), .int .u8 (l : Int), .int .u16 (s : Int), .int .u16 (m : Int)] 28 (0, 0)) := (G6.block w.heap.size (Array.getElem?_eq_some_iff.1 hrow).1 (fun h => by have := (O5.lt w.heap.size h.symm).1; omega)).trans hrow
    refine hK.out _ _ hrow6 (fun hHeld => ?_)
    clear hK K
    try simp only [Act.put, List.setIfInBounds_toArray, List.set_cons_zero, List.set_cons_succ]
    have HE := Lib.hid (And.intro O6 hB6)
    clear hrun hrun6 G5 G6 O5 O3 hB5 hrow O6 hB6
    refine wpAnyH_take (i := 10) (oi := { dst := some 2, op := Op.assign (Operand.tmp 67), type := 30, pos := "law.go:60", after := #[{ on := 9, ground := Ground.data }, { on := 9, ground := Ground.chain }, { on := 0, ground := Ground.phase }, { on := 1, ground := Ground.phase }, { on := 2, ground := Ground.phase }, { on := 3, ground := Ground.phase }, { on := 4, ground := Ground.phase }, { on := 5, ground := Ground.phase }, { on := 6, ground := Ground.phase }, { on := 7, ground := Ground.phase }, { on := 8, ground := Ground.phase }, { on := 9, ground := Ground.phase }], guard := none }) (v := v6) rfl (by kernel_rfl) (by kernel_rfl) (by kernel_rfl) (fun _ _ _ h => h) (Or.inl ⟨by rfl, fun w hSw => by go_simp⟩) (by assumption) ?_
    try simp only [Act.put, List.setIfInBounds_toArray, List.set_cons_zero, List.set_cons_succ]
    refine wpAnyH_done (by kernel_rfl) ?_ _
    try unfold NoPanic
    go_wp2
    go_ret
    exact ⟨v6, rfl, by have h := own_mono HE.out.1 (Nat.le_succ _); rw [HW.out.2.2.2.1.1] at h; exact h, HE.out.2⟩
  · go_simp
    with_reducible refine (HCn.out _).mono ?_
    rintro e wd ⟨v4, rfl, O4, B4⟩
    try (replace RK : Row wd g [kb] := (B4.block g RK.lt).trans RK)
    replace hb := hb.trans (B4.mono hb.size)
    obtain ⟨A4, c4, hv4, -, -, hn4⟩ := O4.form
    obtain ⟨m4, hm4⟩ : ∃ m4, m4 = (coin m3).length := ⟨_, rfl⟩
    rw [← hm4] at hv4
    subst hv4
    have HN4 := Lib.hid (And.intro hm4 hn4)
    clear hm4 hn4 B4
    refine hK.out _ _ ((hb.block w.heap.size HW.out.2.1).trans HW.out.1) (fun hHeld => ?_)
    clear hK K
    try simp only [Act.put, List.setIfInBounds_toArray, List.set_cons_zero, List.set_cons_succ]
    refine wpAnyH_ready (rs := [2]) (by kernel_rfl) (by simp) ?_
    refine AllReadyH.cons (o := { dst := some 60, op := Op.buildSlice 30 1 #[(0, Operand.tmp 59)], type := 30, pos := "law.go:60", after := #[{ on := 1, ground := Ground.data }], guard := none }) rfl (fun K hK => ?_) AllReadyH.nil
    go_simp
    have RK := one_row wd kb 1 HKb.out
    have hgk : w2.heap.size ≤ wd.heap.size := hb.size
    have hb1 : Below wd.heap.size wd (wd.alloc (.cells #[.int .u8 1] 5)) := (Below.refl _ _).alloc (Nat.le_refl _) _
    obtain ⟨g, hg⟩ : ∃ g, g = wd.heap.size := ⟨_, rfl⟩
    try (replace O4 := O4.kept hb1)
    replace hb := hb.trans (hb1.mono hb.size)
    rw [← hg] at RK hgk ⊢
    clear hg hb1
    generalize wd.alloc _ = wd at *
    refine hK.out _ _ ((hb.block w.heap.size HW.out.2.1).trans HW.out.1) (fun hHeld => ?_)
    clear hK K
    try simp only [Act.put, List.setIfInBounds_toArray, List.set_cons_zero, List.set_cons_succ]
    refine wpAnyH_ready (rs := [7]) (by kernel_rfl) (by simp) ?_
    refine AllReadyH.cons (o := { dst := some 65, op := Op.call { callee := Callee.builtin Builtin.append, args := #[Operand.tmp 60, Operand.tmp 64], argTypes := #[30, 30] }, type := 30, pos := "law.go:60", after := #[{ on := 2, ground := Ground.data }, { on := 6, ground := Ground.data }, { on := 6, ground := Ground.chain }], guard := none }) rfl (fun K hK => ?_) AllReadyH.nil
    have OK1 := RK.own (B := w.heap.size + 1) (Nat.le_trans HW.out.2.1 hgk) (by show 1 ≤ _; omega)
    obtain ⟨v5, w5, hrun, O5, G5⟩ := app_run (w := wd) (w.heap.size + 1) (.slice (some ⟨g, 0, none⟩) 1 1) [kb] (coin m3) A4 m4 c4 OK1 (O4.rd) HN4.out.1 HN4.out.2 (by have := sz_le m3; rw [length_coin]; simp; omega) (Nat.le_trans HW.out.2.1 hb.size)
    refine Lib.wp_append_run _ (.tmp 60) (.tmp 64) 30 30 rfl _ _ rfl rfl _ _ hrun ?_
    have O3 := (HW.out.2.2.1.kept hb).keptG G5 (own_ne2 HW.out.2.2.1 hgk)
    have hB5 : Below w.heap.size w w5 := (HW.out.2.2.2.2.trans (hb.mono HW.out.2.2.2.2.size)).grown G5 (Nat.le_trans HW.out.2.2.2.2.size hb.size) (fun k h => by (simp only [Value.ownBlock, Option.some.injEq] at h); subst h; exact Nat.le_trans HW.out.2.2.2.2.size hgk)
    have hrow : w5.heap[w.heap.size]? = some (.cells #[.int .u8 1, .int .u64 (n : Int), .int .i64 (d : Int), .int .u32 (a : Int), .int .u8 (l : Int), .int .u16 (s : Int), .int .u16 (m : Int)] 28 (0, 0)) := (G5.block w.heap.size (Nat.lt_of_lt_of_le HW.out.2.1 hb.size) (by simp only [Value.ownBlock]; intro h; injection h with h; have := HW.out.2.1; omega)).trans ((hb.block w.heap.size HW.out.2.1).trans HW.out.1)
    obtain ⟨A5, c5, hv5, -, -, -⟩ := O5.form
    obtain ⟨m5, hm5⟩ : ∃ m5, m5 = ([kb] ++ coin m3).length := ⟨_, rfl⟩
    rw [← hm5] at hv5
    subst hv5
    clear hm5
    refine hK.out _ _ hrow (fun hHeld => ?_)
    clear hK K
    try simp only [Act.put, List.setIfInBounds_toArray, List.set_cons_zero, List.set_cons_succ]
    refine wpAnyH_ready (rs := [9]) (by kernel_rfl) (by simp) ?_
    refine AllReadyH.cons (o := { dst := some 67, op := Op.call { callee := Callee.builtin Builtin.append, args := #[Operand.tmp 65, Operand.tmp 66], argTypes := #[30, 30] }, type := 30, pos := "law.go:60", after := #[{ on := 7, ground := Ground.data }, { on := 8, ground := Ground.data }, { on := 7, ground := Ground.chain }], guard := none }) rfl (fun K hK => ?_) AllReadyH.nil
    obtain ⟨v6, w6, hrun6, O6, G6⟩ := app_run (w := w5) (w.heap.size + 1) (.slice A5 m5 c5) ([kb] ++ coin m3) bs A3 m3 c3 O5 O3.rd HW.out.2.2.2.1.1 HW.out.2.2.2.1.2 (by have := sz_le m3; have := HW.out.2.2.2.1.1; rw [List.length_append, length_coin]; simp; omega) (Array.getElem?_eq_some_iff.1 hrow).1
    refine Lib.wp_append_run _ (.tmp 65) (.tmp 66) 30 30 rfl _ _ rfl rfl _ _ hrun6 ?_
    have hB6 : Below w.heap.size w w6 := hB5.grown G6 hB5.size (fun k h => Nat.le_trans (Nat.le_succ _) (O5.lt k h).1)
    have hrow6 : w6.heap[w.heap.size]? = some (.cells #[.int .u8 1, .int .u64 (n : Int), .int .i64 (d : Int), .int .u32 (a : Int), .int .u8 (l : Int), .int .u16 (s : Int), .int .u16 (m : Int)] 28 (0, 0)) := (G6.block w.heap.size (Array.getElem?_eq_some_iff.1 hrow).1 (fun h => by have := (O5.lt w.heap.size h.symm).1; omega)).trans hrow
    refine hK.out _ _ hrow6 (fun hHeld => ?_)
    clear hK K
    try simp only [Act.put, List.setIfInBounds_toArray, List.set_cons_zero, List.set_cons_succ]
    have HE := Lib.hid (And.intro O6 hB6)
    clear hrun hrun6 G5 G6 O5 O3 hB5 hrow O6 hB6
    refine wpAnyH_take (i := 10) (oi := { dst := some 2, op := Op.assign (Operand.tmp 67), type := 30, pos := "law.go:60", after := #[{ on := 9, ground := Ground.data }, { on := 9, ground := Ground.chain }, { on := 0, ground := Ground.phase }, { on := 1, ground := Ground.phase }, { on := 2, ground := Ground.phase }, { on := 3, ground := Ground.phase }, { on := 4, ground := Ground.phase }, { on := 5, ground := Ground.phase }, { on := 6, ground := Ground.phase }, { on := 7, ground := Ground.phase }, { on := 8, ground := Ground.phase }, { on := 9, ground := Ground.phase }], guard := none }) (v := v6) rfl (by kernel_rfl) (by kernel_rfl) (by kernel_rfl) (fun _ _ _ h => h) (Or.inl ⟨by rfl, fun w hSw => by go_simp⟩) (by assumption) ?_
    try simp only [Act.put, List.setIfInBounds_toArray, List.set_cons_zero, List.set_cons_succ]
    refine wpAnyH_done (by kernel_rfl) ?_ _
    try unfold NoPanic
    go_wp2
    go_ret
    exact ⟨v6, rfl, by have h := own_mono HE.out.1 (Nat.le_succ _); rw [HW.out.2.2.2.1.1] at h; exact h, HE.out.2⟩
set_option maxHeartbeats 2000000 in
theorem byt2 (n d a l s m : Nat) (hn : n < 18446744073709551616) (hd : d < 16) (ha : a < 4294967296) (hl : l < 256) (hs : s < 65536) (hm : m < 65536) (kb : UInt8) (hkb : 2 = kb.toNat) (w : World) :
    Calls Try.prog 11 #[.agg #[.int .u8 2, .int .u64 (n : Int), .int .i64 (d : Int), .int .u32 (a : Int), .int .u8 (l : Int), .int .u16 (s : Int), .int .u16 (m : Int)]] w (CoinOwn w (kb :: (coin (coins [d, m]).length ++ coins [d, m]))) := by
  have B0 : Below w.heap.size w (w.alloc (.cells #[.int .u8 2, .int .u64 (n : Int), .int .i64 (d : Int), .int .u32 (a : Int), .int .u8 (l : Int), .int .u16 (s : Int), .int .u16 (m : Int)] 28)) := (Below.refl w.heap.size w).alloc (Nat.le_refl _) _
  have R0 := heap_alloc_new w (.cells #[.int .u8 2, .int .u64 (n : Int), .int .i64 (d : Int), .int .u32 (a : Int), .int .u8 (l : Int), .int .u16 (s : Int), .int .u16 (m : Int)] 28)
  have R1 := heap_alloc_new (w.alloc (.cells #[.int .u8 2, .int .u64 (n : Int), .int .i64 (d : Int), .int .u32 (a : Int), .int .u8 (l : Int), .int .u16 (s : Int), .int .u16 (m : Int)] 28)) (.cells #[.int .u64 (d : Int), .int .u64 (m : Int)] 22)
  rw [show (w.alloc (.cells #[.int .u8 2, .int .u64 (n : Int), .int .i64 (d : Int), .int .u32 (a : Int), .int .u8 (l : Int), .int .u16 (s : Int), .int .u16 (m : Int)] 28)).heap.size = w.heap.size + 1 by simp] at R1
  have hc24 : ∀ W b, W.heap[b]? = some (.cells #[.int .u64 (d : Int), .int .u64 (m : Int)] 22 (0, 0)) → Calls Try.prog 24 #[.slice (some ⟨b, 0, none⟩) 2 2] W (CoinOwn W (coins [d, m])) := fun W b hb => rcoins_any W b 2 [d, m] hb (by intro k hk; simp at hk; omega) rfl (by decide)
  have hcl := coins_len [d, m]
  simp only [List.length_cons, List.length_nil] at hcl
  have hw1 : IntKind.u64.wrap (d : Int) = d := by rw [wrap_u64]; omega
  have hw2 : IntKind.u64.wrap (m : Int) = m := by rw [wrap_u64]; omega
  have hw3 : IntKind.u64.wrap (a : Int) = a := by rw [wrap_u64]; omega
  have hw4 : IntKind.u64.wrap (l : Int) = l := by rw [wrap_u64]; omega
  have hw5 : IntKind.u64.wrap (s : Int) = s := by rw [wrap_u64]; omega
  generalize coins [d, m] = bs at *
  obtain ⟨m3, hm3⟩ : ∃ m3, m3 = bs.length := ⟨_, rfl⟩
  have HX := Lib.hid (And.intro hc24 (And.intro B0 (And.intro R0 (And.intro R1 hm3))))
  rw [← hm3] at hcl
  have hw6 : IntKind.u64.wrap (m3 : Int) = m3 := by rw [wrap_u64]; omega
  have HCn : Hid (∀ W : World, Calls Try.prog 15 #[.int .u64 (m3 : Int)] W (CoinOwn W (coin m3))) := fun W => rcoin_own m3 (by omega) W
  have HKb := Lib.hid hkb
  clear hc24 B0 R0 R1 hm3 hkb
  go_enter Try.func11, Try.ntmps11
  go_upto_region 10 with (go_at_call 24; (with_reducible refine (HX.out.1 _ (w.heap.size + 1) HX.out.2.2.2.1).mono ?_); (rintro e w2 ⟨v3, rfl, O3, B3⟩; obtain ⟨A3, c3, hv3, -, -, hn3⟩ := O3.form; rw [← HX.out.2.2.2.2] at hv3; subst hv3; have HW : Hid (w2.heap[w.heap.size]? = some (.cells #[.int .u8 2, .int .u64 (n : Int), .int .i64 (d : Int), .int .u32 (a : Int), .int .u8 (l : Int), .int .u16 (s : Int), .int .u16 (m : Int)] 28 (0, 0)) ∧ w.heap.size < w2.heap.size ∧ Own w2 _ (.slice A3 m3 c3) bs ∧ (m3 = bs.length ∧ (A3 = none → c3 = 0)) ∧ Below w.heap.size w w2) := ⟨(B3.block w.heap.size (by simp; omega)).trans ((heap_alloc_old _ _ (by simp)).trans HX.out.2.2.1), Nat.lt_of_lt_of_le (by simp; omega) B3.size, O3, ⟨HX.out.2.2.2.2, hn3⟩, (HX.out.2.1.alloc (by simp) _).trans (B3.mono (by simp; omega))⟩; clear O3 B3 hn3))
  refine wp_region_noPanic ?_
  refine wp_region_held_drew (S := fun W : World => W.heap[w.heap.size]? = some (.cells #[.int .u8 2, .int .u64 (n : Int), .int .i64 (d : Int), .int .u32 (a : Int), .int .u8 (l : Int), .int .u16 (s : Int), .int .u16 (m : Int)] 28 (0, 0))) (by kernel_rfl) HW.out.1 (fun hHeld => ?_)
  have hb : Below w2.heap.size w2 w2.drew := (Below.refl _ w2).drew
  generalize w2.drew = wd at *
  refine wpAnyH_take (i := 0) (oi := { dst := some 58, op := Op.fieldAddr 28 (Operand.tmp 1) 0, type := 0, pos := "law.go:60", after := #[], guard := none }) (v := .pointer (some ⟨w.heap.size, 0, none⟩)) rfl (by kernel_rfl) (by kernel_rfl) (by kernel_rfl) (fun _ _ _ h => h) (Or.inl ⟨by rfl, fun w hSw => by go_simp⟩) (by assumption) ?_
  try simp only [Act.put, List.setIfInBounds_toArray, List.set_cons_zero, List.set_cons_succ]
  refine wpAnyH_take (i := 1) (oi := { dst := some 59, op := Op.load 5 (Operand.tmp 58), type := 5, pos := "law.go:60", after := #[{ on := 0, ground := Ground.data }], guard := none }) (v := .int .u8 2) rfl (by kernel_rfl) (by kernel_rfl) (by kernel_rfl) (fun _ _ _ h => h) (Or.inl ⟨by rfl, fun w hSw => by obtain ⟨⟨q0, q1, q2, q3, q4, q5, q6⟩, -⟩ := row7 hSw; go_simp⟩) (by assumption) ?_
  try simp only [Act.put, List.setIfInBounds_toArray, List.set_cons_zero, List.set_cons_succ]
  refine wpAnyH_take (i := 3) (oi := { dst := some 61, op := Op.move (Operand.tmp 3), type := 30, pos := "law.go:60", after := #[], guard := none }) (v := .slice A3 m3 c3) rfl (by kernel_rfl) (by kernel_rfl) (by kernel_rfl) (fun _ _ _ h => h) (Or.inl ⟨by rfl, fun w hSw => by go_simp⟩) (by assumption) ?_
  try simp only [Act.put, List.setIfInBounds_toArray, List.set_cons_zero, List.set_cons_succ]
  refine wpAnyH_take (i := 4) (oi := { dst := some 62, op := Op.call { callee := Callee.builtin Builtin.len, args := #[Operand.tmp 61], argTypes := #[30] }, type := 3, pos := "law.go:60", after := #[{ on := 3, ground := Ground.data }], guard := none }) (v := .int .i64 (m3 : Int)) rfl (by kernel_rfl) (by kernel_rfl) (by kernel_rfl) (fun _ _ _ h => h) (Or.inl ⟨by rfl, fun w hSw => by go_simp⟩) (by assumption) ?_
  try simp only [Act.put, List.setIfInBounds_toArray, List.set_cons_zero, List.set_cons_succ]
  refine wpAnyH_take (i := 5) (oi := { dst := some 63, op := Op.convert 3 22 (Operand.tmp 62), type := 22, pos := "law.go:60", after := #[{ on := 4, ground := Ground.data }], guard := none }) (v := .int .u64 (m3 : Int)) rfl (by kernel_rfl) (by kernel_rfl) (by kernel_rfl) (fun _ _ _ h => h) (Or.inl ⟨by rfl, fun w hSw => by go_simp⟩) (by assumption) ?_
  try simp only [Act.put, List.setIfInBounds_toArray, List.set_cons_zero, List.set_cons_succ]
  refine wpAnyH_take (i := 8) (oi := { dst := some 66, op := Op.move (Operand.tmp 3), type := 30, pos := "law.go:60", after := #[], guard := none }) (v := .slice A3 m3 c3) rfl (by kernel_rfl) (by kernel_rfl) (by kernel_rfl) (fun _ _ _ h => h) (Or.inl ⟨by rfl, fun w hSw => by go_simp⟩) (by assumption) ?_
  try simp only [Act.put, List.setIfInBounds_toArray, List.set_cons_zero, List.set_cons_succ]
  refine wpAnyH_ready (rs := [2, 6]) (by kernel_rfl) (by simp) ?_
  refine (AllReadyH.cons (o := { dst := some 60, op := Op.buildSlice 30 1 #[(0, Operand.tmp 59)], type := 30, pos := "law.go:60", after := #[{ on := 1, ground := Ground.data }], guard := none }) rfl (fun K hK => ?_) (AllReadyH.cons (o := { dst := some 64, op := Op.call { callee := Callee.value (Operand.func 15), args := #[Operand.tmp 63], argTypes := #[22] }, type := 30, pos := "law.go:60", after := #[{ on := 5, ground := Ground.data }], guard := none }) rfl (fun K hK => ?_) AllReadyH.nil))
  · go_simp
    have RK := one_row wd kb 2 HKb.out
    have hgk : w2.heap.size ≤ wd.heap.size := hb.size
    have hb1 : Below wd.heap.size wd (wd.alloc (.cells #[.int .u8 2] 5)) := (Below.refl _ _).alloc (Nat.le_refl _) _
    obtain ⟨g, hg⟩ : ∃ g, g = wd.heap.size := ⟨_, rfl⟩
    try (replace O4 := O4.kept hb1)
    replace hb := hb.trans (hb1.mono hb.size)
    rw [← hg] at RK hgk ⊢
    clear hg hb1
    generalize wd.alloc _ = wd at *
    refine hK.out _ _ ((hb.block w.heap.size HW.out.2.1).trans HW.out.1) (fun hHeld => ?_)
    clear hK K
    try simp only [Act.put, List.setIfInBounds_toArray, List.set_cons_zero, List.set_cons_succ]
    refine wpAnyH_ready (rs := [6]) (by kernel_rfl) (by simp) ?_
    refine AllReadyH.cons (o := { dst := some 64, op := Op.call { callee := Callee.value (Operand.func 15), args := #[Operand.tmp 63], argTypes := #[22] }, type := 30, pos := "law.go:60", after := #[{ on := 5, ground := Ground.data }], guard := none }) rfl (fun K hK => ?_) AllReadyH.nil
    go_simp
    with_reducible refine (HCn.out _).mono ?_
    rintro e wd ⟨v4, rfl, O4, B4⟩
    try (replace RK : Row wd g [kb] := (B4.block g RK.lt).trans RK)
    replace hb := hb.trans (B4.mono hb.size)
    obtain ⟨A4, c4, hv4, -, -, hn4⟩ := O4.form
    obtain ⟨m4, hm4⟩ : ∃ m4, m4 = (coin m3).length := ⟨_, rfl⟩
    rw [← hm4] at hv4
    subst hv4
    have HN4 := Lib.hid (And.intro hm4 hn4)
    clear hm4 hn4 B4
    refine hK.out _ _ ((hb.block w.heap.size HW.out.2.1).trans HW.out.1) (fun hHeld => ?_)
    clear hK K
    try simp only [Act.put, List.setIfInBounds_toArray, List.set_cons_zero, List.set_cons_succ]
    refine wpAnyH_ready (rs := [7]) (by kernel_rfl) (by simp) ?_
    refine AllReadyH.cons (o := { dst := some 65, op := Op.call { callee := Callee.builtin Builtin.append, args := #[Operand.tmp 60, Operand.tmp 64], argTypes := #[30, 30] }, type := 30, pos := "law.go:60", after := #[{ on := 2, ground := Ground.data }, { on := 6, ground := Ground.data }, { on := 6, ground := Ground.chain }], guard := none }) rfl (fun K hK => ?_) AllReadyH.nil
    have OK1 := RK.own (B := w.heap.size + 1) (Nat.le_trans HW.out.2.1 hgk) (by show 1 ≤ _; omega)
    obtain ⟨v5, w5, hrun, O5, G5⟩ := app_run (w := wd) (w.heap.size + 1) (.slice (some ⟨g, 0, none⟩) 1 1) [kb] (coin m3) A4 m4 c4 OK1 (O4.rd) HN4.out.1 HN4.out.2 (by have := sz_le m3; rw [length_coin]; simp; omega) (Nat.le_trans HW.out.2.1 hb.size)
    refine Lib.wp_append_run _ (.tmp 60) (.tmp 64) 30 30 rfl _ _ rfl rfl _ _ hrun ?_
    have O3 := (HW.out.2.2.1.kept hb).keptG G5 (own_ne2 HW.out.2.2.1 hgk)
    have hB5 : Below w.heap.size w w5 := (HW.out.2.2.2.2.trans (hb.mono HW.out.2.2.2.2.size)).grown G5 (Nat.le_trans HW.out.2.2.2.2.size hb.size) (fun k h => by (simp only [Value.ownBlock, Option.some.injEq] at h); subst h; exact Nat.le_trans HW.out.2.2.2.2.size hgk)
    have hrow : w5.heap[w.heap.size]? = some (.cells #[.int .u8 2, .int .u64 (n : Int), .int .i64 (d : Int), .int .u32 (a : Int), .int .u8 (l : Int), .int .u16 (s : Int), .int .u16 (m : Int)] 28 (0, 0)) := (G5.block w.heap.size (Nat.lt_of_lt_of_le HW.out.2.1 hb.size) (by simp only [Value.ownBlock]; intro h; injection h with h; have := HW.out.2.1; omega)).trans ((hb.block w.heap.size HW.out.2.1).trans HW.out.1)
    obtain ⟨A5, c5, hv5, -, -, -⟩ := O5.form
    obtain ⟨m5, hm5⟩ : ∃ m5, m5 = ([kb] ++ coin m3).length := ⟨_, rfl⟩
    rw [← hm5] at hv5
    subst hv5
    clear hm5
    refine hK.out _ _ hrow (fun hHeld => ?_)
    clear hK K
    try simp only [Act.put, List.setIfInBounds_toArray, List.set_cons_zero, List.set_cons_succ]
    refine wpAnyH_ready (rs := [9]) (by kernel_rfl) (by simp) ?_
    refine AllReadyH.cons (o := { dst := some 67, op := Op.call { callee := Callee.builtin Builtin.append, args := #[Operand.tmp 65, Operand.tmp 66], argTypes := #[30, 30] }, type := 30, pos := "law.go:60", after := #[{ on := 7, ground := Ground.data }, { on := 8, ground := Ground.data }, { on := 7, ground := Ground.chain }], guard := none }) rfl (fun K hK => ?_) AllReadyH.nil
    obtain ⟨v6, w6, hrun6, O6, G6⟩ := app_run (w := w5) (w.heap.size + 1) (.slice A5 m5 c5) ([kb] ++ coin m3) bs A3 m3 c3 O5 O3.rd HW.out.2.2.2.1.1 HW.out.2.2.2.1.2 (by have := sz_le m3; have := HW.out.2.2.2.1.1; rw [List.length_append, length_coin]; simp; omega) (Array.getElem?_eq_some_iff.1 hrow).1
    refine Lib.wp_append_run _ (.tmp 65) (.tmp 66) 30 30 rfl _ _ rfl rfl _ _ hrun6 ?_
    have hB6 : Below w.heap.size w w6 := hB5.grown G6 hB5.size (fun k h => Nat.le_trans (Nat.le_succ _) (O5.lt k h).1)
    have hrow6 : w6.heap[w.heap.size]? = some (.cells #[.int .u8 2, .int .u64 (n : Int), .int .i64 (d : Int), .int .u32 (a : Int), .int .u8 (l : Int), .int .u16 (s : Int), .int .u16 (m : Int)] 28 (0, 0)) := (G6.block w.heap.size (Array.getElem?_eq_some_iff.1 hrow).1 (fun h => by have := (O5.lt w.heap.size h.symm).1; omega)).trans hrow
    refine hK.out _ _ hrow6 (fun hHeld => ?_)
    clear hK K
    try simp only [Act.put, List.setIfInBounds_toArray, List.set_cons_zero, List.set_cons_succ]
    have HE := Lib.hid (And.intro O6 hB6)
    clear hrun hrun6 G5 G6 O5 O3 hB5 hrow O6 hB6
    refine wpAnyH_take (i := 10) (oi := { dst := some 2, op := Op.assign (Operand.tmp 67), type := 30, pos := "law.go:60", after := #[{ on := 9, ground := Ground.data }, { on := 9, ground := Ground.chain }, { on := 0, ground := Ground.phase }, { on := 1, ground := Ground.phase }, { on := 2, ground := Ground.phase }, { on := 3, ground := Ground.phase }, { on := 4, ground := Ground.phase }, { on := 5, ground := Ground.phase }, { on := 6, ground := Ground.phase }, { on := 7, ground := Ground.phase }, { on := 8, ground := Ground.phase }, { on := 9, ground := Ground.phase }], guard := none }) (v := v6) rfl (by kernel_rfl) (by kernel_rfl) (by kernel_rfl) (fun _ _ _ h => h) (Or.inl ⟨by rfl, fun w hSw => by go_simp⟩) (by assumption) ?_
    try simp only [Act.put, List.setIfInBounds_toArray, List.set_cons_zero, List.set_cons_succ]
    refine wpAnyH_done (by kernel_rfl) ?_ _
    try unfold NoPanic
    go_wp2
    go_ret
    exact ⟨v6, rfl, by have h := own_mono HE.out.1 (Nat.le_succ _); rw [HW.out.2.2.2.1.1] at h; exact h, HE.out.2⟩
  · go_simp
    with_reducible refine (HCn.out _).mono ?_
    rintro e wd ⟨v4, rfl, O4, B4⟩
    try (replace RK : Row wd g [kb] := (B4.block g RK.lt).trans RK)
    replace hb := hb.trans (B4.mono hb.size)
    obtain ⟨A4, c4, hv4, -, -, hn4⟩ := O4.form
    obtain ⟨m4, hm4⟩ : ∃ m4, m4 = (coin m3).length := ⟨_, rfl⟩
    rw [← hm4] at hv4
    subst hv4
    have HN4 := Lib.hid (And.intro hm4 hn4)
    clear hm4 hn4 B4
    refine hK.out _ _ ((hb.block w.heap.size HW.out.2.1).trans HW.out.1) (fun hHeld => ?_)
    clear hK K
    try simp only [Act.put, List.setIfInBounds_toArray, List.set_cons_zero, List.set_cons_succ]
    refine wpAnyH_ready (rs := [2]) (by kernel_rfl) (by simp) ?_
    refine AllReadyH.cons (o := { dst := some 60, op := Op.buildSlice 30 1 #[(0, Operand.tmp 59)], type := 30, pos := "law.go:60", after := #[{ on := 1, ground := Ground.data }], guard := none }) rfl (fun K hK => ?_) AllReadyH.nil
    go_simp
    have RK := one_row wd kb 2 HKb.out
    have hgk : w2.heap.size ≤ wd.heap.size := hb.size
    have hb1 : Below wd.heap.size wd (wd.alloc (.cells #[.int .u8 2] 5)) := (Below.refl _ _).alloc (Nat.le_refl _) _
    obtain ⟨g, hg⟩ : ∃ g, g = wd.heap.size := ⟨_, rfl⟩
    try (replace O4 := O4.kept hb1)
    replace hb := hb.trans (hb1.mono hb.size)
    rw [← hg] at RK hgk ⊢
    clear hg hb1
    generalize wd.alloc _ = wd at *
    refine hK.out _ _ ((hb.block w.heap.size HW.out.2.1).trans HW.out.1) (fun hHeld => ?_)
    clear hK K
    try simp only [Act.put, List.setIfInBounds_toArray, List.set_cons_zero, List.set_cons_succ]
    refine wpAnyH_ready (rs := [7]) (by kernel_rfl) (by simp) ?_
    refine AllReadyH.cons (o := { dst := some 65, op := Op.call { callee := Callee.builtin Builtin.append, args := #[Operand.tmp 60, Operand.tmp 64], argTypes := #[30, 30] }, type := 30, pos := "law.go:60", after := #[{ on := 2, ground := Ground.data }, { on := 6, ground := Ground.data }, { on := 6, ground := Ground.chain }], guard := none }) rfl (fun K hK => ?_) AllReadyH.nil
    have OK1 := RK.own (B := w.heap.size + 1) (Nat.le_trans HW.out.2.1 hgk) (by show 1 ≤ _; omega)
    obtain ⟨v5, w5, hrun, O5, G5⟩ := app_run (w := wd) (w.heap.size + 1) (.slice (some ⟨g, 0, none⟩) 1 1) [kb] (coin m3) A4 m4 c4 OK1 (O4.rd) HN4.out.1 HN4.out.2 (by have := sz_le m3; rw [length_coin]; simp; omega) (Nat.le_trans HW.out.2.1 hb.size)
    refine Lib.wp_append_run _ (.tmp 60) (.tmp 64) 30 30 rfl _ _ rfl rfl _ _ hrun ?_
    have O3 := (HW.out.2.2.1.kept hb).keptG G5 (own_ne2 HW.out.2.2.1 hgk)
    have hB5 : Below w.heap.size w w5 := (HW.out.2.2.2.2.trans (hb.mono HW.out.2.2.2.2.size)).grown G5 (Nat.le_trans HW.out.2.2.2.2.size hb.size) (fun k h => by (simp only [Value.ownBlock, Option.some.injEq] at h); subst h; exact Nat.le_trans HW.out.2.2.2.2.size hgk)
    have hrow : w5.heap[w.heap.size]? = some (.cells #[.int .u8 2, .int .u64 (n : Int), .int .i64 (d : Int), .int .u32 (a : Int), .int .u8 (l : Int), .int .u16 (s : Int), .int .u16 (m : Int)] 28 (0, 0)) := (G5.block w.heap.size (Nat.lt_of_lt_of_le HW.out.2.1 hb.size) (by simp only [Value.ownBlock]; intro h; injection h with h; have := HW.out.2.1; omega)).trans ((hb.block w.heap.size HW.out.2.1).trans HW.out.1)
    obtain ⟨A5, c5, hv5, -, -, -⟩ := O5.form
    obtain ⟨m5, hm5⟩ : ∃ m5, m5 = ([kb] ++ coin m3).length := ⟨_, rfl⟩
    rw [← hm5] at hv5
    subst hv5
    clear hm5
    refine hK.out _ _ hrow (fun hHeld => ?_)
    clear hK K
    try simp only [Act.put, List.setIfInBounds_toArray, List.set_cons_zero, List.set_cons_succ]
    refine wpAnyH_ready (rs := [9]) (by kernel_rfl) (by simp) ?_
    refine AllReadyH.cons (o := { dst := some 67, op := Op.call { callee := Callee.builtin Builtin.append, args := #[Operand.tmp 65, Operand.tmp 66], argTypes := #[30, 30] }, type := 30, pos := "law.go:60", after := #[{ on := 7, ground := Ground.data }, { on := 8, ground := Ground.data }, { on := 7, ground := Ground.chain }], guard := none }) rfl (fun K hK => ?_) AllReadyH.nil
    obtain ⟨v6, w6, hrun6, O6, G6⟩ := app_run (w := w5) (w.heap.size + 1) (.slice A5 m5 c5) ([kb] ++ coin m3) bs A3 m3 c3 O5 O3.rd HW.out.2.2.2.1.1 HW.out.2.2.2.1.2 (by have := sz_le m3; have := HW.out.2.2.2.1.1; rw [List.length_append, length_coin]; simp; omega) (Array.getElem?_eq_some_iff.1 hrow).1
    refine Lib.wp_append_run _ (.tmp 65) (.tmp 66) 30 30 rfl _ _ rfl rfl _ _ hrun6 ?_
    have hB6 : Below w.heap.size w w6 := hB5.grown G6 hB5.size (fun k h => Nat.le_trans (Nat.le_succ _) (O5.lt k h).1)
    have hrow6 : w6.heap[w.heap.size]? = some (.cells #[.int .u8 2, .int .u64 (n : Int), .int .i64 (d : Int), .int .u32 (a : Int), .int .u8 (l : Int), .int .u16 (s : Int), .int .u16 (m : Int)] 28 (0, 0)) := (G6.block w.heap.size (Array.getElem?_eq_some_iff.1 hrow).1 (fun h => by have := (O5.lt w.heap.size h.symm).1; omega)).trans hrow
    refine hK.out _ _ hrow6 (fun hHeld => ?_)
    clear hK K
    try simp only [Act.put, List.setIfInBounds_toArray, List.set_cons_zero, List.set_cons_succ]
    have HE := Lib.hid (And.intro O6 hB6)
    clear hrun hrun6 G5 G6 O5 O3 hB5 hrow O6 hB6
    refine wpAnyH_take (i := 10) (oi := { dst := some 2, op := Op.assign (Operand.tmp 67), type := 30, pos := "law.go:60", after := #[{ on := 9, ground := Ground.data }, { on := 9, ground := Ground.chain }, { on := 0, ground := Ground.phase }, { on := 1, ground := Ground.phase }, { on := 2, ground := Ground.phase }, { on := 3, ground := Ground.phase }, { on := 4, ground := Ground.phase }, { on := 5, ground := Ground.phase }, { on := 6, ground := Ground.phase }, { on := 7, ground := Ground.phase }, { on := 8, ground := Ground.phase }, { on := 9, ground := Ground.phase }], guard := none }) (v := v6) rfl (by kernel_rfl) (by kernel_rfl) (by kernel_rfl) (fun _ _ _ h => h) (Or.inl ⟨by rfl, fun w hSw => by go_simp⟩) (by assumption) ?_
    try simp only [Act.put, List.setIfInBounds_toArray, List.set_cons_zero, List.set_cons_succ]
    refine wpAnyH_done (by kernel_rfl) ?_ _
    try unfold NoPanic
    go_wp2
    go_ret
    exact ⟨v6, rfl, by have h := own_mono HE.out.1 (Nat.le_succ _); rw [HW.out.2.2.2.1.1] at h; exact h, HE.out.2⟩
set_option maxHeartbeats 2000000 in
theorem byt3 (n d a l s m : Nat) (hn : n < 18446744073709551616) (hd : d < 16) (ha : a < 4294967296) (hl : l < 256) (hs : s < 65536) (hm : m < 65536) (kb : UInt8) (hkb : 3 = kb.toNat) (w : World) :
    Calls Try.prog 11 #[.agg #[.int .u8 3, .int .u64 (n : Int), .int .i64 (d : Int), .int .u32 (a : Int), .int .u8 (l : Int), .int .u16 (s : Int), .int .u16 (m : Int)]] w (CoinOwn w (kb :: (coin (coins [d, a, l, s, m]).length ++ coins [d, a, l, s, m]))) := by
  have B0 : Below w.heap.size w (w.alloc (.cells #[.int .u8 3, .int .u64 (n : Int), .int .i64 (d : Int), .int .u32 (a : Int), .int .u8 (l : Int), .int .u16 (s : Int), .int .u16 (m : Int)] 28)) := (Below.refl w.heap.size w).alloc (Nat.le_refl _) _
  have R0 := heap_alloc_new w (.cells #[.int .u8 3, .int .u64 (n : Int), .int .i64 (d : Int), .int .u32 (a : Int), .int .u8 (l : Int), .int .u16 (s : Int), .int .u16 (m : Int)] 28)
  have R1 := heap_alloc_new (w.alloc (.cells #[.int .u8 3, .int .u64 (n : Int), .int .i64 (d : Int), .int .u32 (a : Int), .int .u8 (l : Int), .int .u16 (s : Int), .int .u16 (m : Int)] 28)) (.cells #[.int .u64 (d : Int), .int .u64 (a : Int), .int .u64 (l : Int), .int .u64 (s : Int), .int .u64 (m : Int)] 22)
  rw [show (w.alloc (.cells #[.int .u8 3, .int .u64 (n : Int), .int .i64 (d : Int), .int .u32 (a : Int), .int .u8 (l : Int), .int .u16 (s : Int), .int .u16 (m : Int)] 28)).heap.size = w.heap.size + 1 by simp] at R1
  have hc24 : ∀ W b, W.heap[b]? = some (.cells #[.int .u64 (d : Int), .int .u64 (a : Int), .int .u64 (l : Int), .int .u64 (s : Int), .int .u64 (m : Int)] 22 (0, 0)) → Calls Try.prog 24 #[.slice (some ⟨b, 0, none⟩) 5 5] W (CoinOwn W (coins [d, a, l, s, m])) := fun W b hb => rcoins_any W b 5 [d, a, l, s, m] hb (by intro k hk; simp at hk; omega) rfl (by decide)
  have hcl := coins_len [d, a, l, s, m]
  simp only [List.length_cons, List.length_nil] at hcl
  have hw1 : IntKind.u64.wrap (d : Int) = d := by rw [wrap_u64]; omega
  have hw2 : IntKind.u64.wrap (m : Int) = m := by rw [wrap_u64]; omega
  have hw3 : IntKind.u64.wrap (a : Int) = a := by rw [wrap_u64]; omega
  have hw4 : IntKind.u64.wrap (l : Int) = l := by rw [wrap_u64]; omega
  have hw5 : IntKind.u64.wrap (s : Int) = s := by rw [wrap_u64]; omega
  generalize coins [d, a, l, s, m] = bs at *
  obtain ⟨m3, hm3⟩ : ∃ m3, m3 = bs.length := ⟨_, rfl⟩
  have HX := Lib.hid (And.intro hc24 (And.intro B0 (And.intro R0 (And.intro R1 hm3))))
  rw [← hm3] at hcl
  have hw6 : IntKind.u64.wrap (m3 : Int) = m3 := by rw [wrap_u64]; omega
  have HCn : Hid (∀ W : World, Calls Try.prog 15 #[.int .u64 (m3 : Int)] W (CoinOwn W (coin m3))) := fun W => rcoin_own m3 (by omega) W
  have HKb := Lib.hid hkb
  clear hc24 B0 R0 R1 hm3 hkb
  go_enter Try.func11, Try.ntmps11
  go_upto_region 10 with (go_at_call 24; (with_reducible refine (HX.out.1 _ (w.heap.size + 1) HX.out.2.2.2.1).mono ?_); (rintro e w2 ⟨v3, rfl, O3, B3⟩; obtain ⟨A3, c3, hv3, -, -, hn3⟩ := O3.form; rw [← HX.out.2.2.2.2] at hv3; subst hv3; have HW : Hid (w2.heap[w.heap.size]? = some (.cells #[.int .u8 3, .int .u64 (n : Int), .int .i64 (d : Int), .int .u32 (a : Int), .int .u8 (l : Int), .int .u16 (s : Int), .int .u16 (m : Int)] 28 (0, 0)) ∧ w.heap.size < w2.heap.size ∧ Own w2 _ (.slice A3 m3 c3) bs ∧ (m3 = bs.length ∧ (A3 = none → c3 = 0)) ∧ Below w.heap.size w w2) := ⟨(B3.block w.heap.size (by simp; omega)).trans ((heap_alloc_old _ _ (by simp)).trans HX.out.2.2.1), Nat.lt_of_lt_of_le (by simp; omega) B3.size, O3, ⟨HX.out.2.2.2.2, hn3⟩, (HX.out.2.1.alloc (by simp) _).trans (B3.mono (by simp; omega))⟩; clear O3 B3 hn3))
  refine wp_region_noPanic ?_
  refine wp_region_held_drew (S := fun W : World => W.heap[w.heap.size]? = some (.cells #[.int .u8 3, .int .u64 (n : Int), .int .i64 (d : Int), .int .u32 (a : Int), .int .u8 (l : Int), .int .u16 (s : Int), .int .u16 (m : Int)] 28 (0, 0))) (by kernel_rfl) HW.out.1 (fun hHeld => ?_)
  have hb : Below w2.heap.size w2 w2.drew := (Below.refl _ w2).drew
  generalize w2.drew = wd at *
  refine wpAnyH_take (i := 0) (oi := { dst := some 58, op := Op.fieldAddr 28 (Operand.tmp 1) 0, type := 0, pos := "law.go:60", after := #[], guard := none }) (v := .pointer (some ⟨w.heap.size, 0, none⟩)) rfl (by kernel_rfl) (by kernel_rfl) (by kernel_rfl) (fun _ _ _ h => h) (Or.inl ⟨by rfl, fun w hSw => by go_simp⟩) (by assumption) ?_
  try simp only [Act.put, List.setIfInBounds_toArray, List.set_cons_zero, List.set_cons_succ]
  refine wpAnyH_take (i := 1) (oi := { dst := some 59, op := Op.load 5 (Operand.tmp 58), type := 5, pos := "law.go:60", after := #[{ on := 0, ground := Ground.data }], guard := none }) (v := .int .u8 3) rfl (by kernel_rfl) (by kernel_rfl) (by kernel_rfl) (fun _ _ _ h => h) (Or.inl ⟨by rfl, fun w hSw => by obtain ⟨⟨q0, q1, q2, q3, q4, q5, q6⟩, -⟩ := row7 hSw; go_simp⟩) (by assumption) ?_
  try simp only [Act.put, List.setIfInBounds_toArray, List.set_cons_zero, List.set_cons_succ]
  refine wpAnyH_take (i := 3) (oi := { dst := some 61, op := Op.move (Operand.tmp 3), type := 30, pos := "law.go:60", after := #[], guard := none }) (v := .slice A3 m3 c3) rfl (by kernel_rfl) (by kernel_rfl) (by kernel_rfl) (fun _ _ _ h => h) (Or.inl ⟨by rfl, fun w hSw => by go_simp⟩) (by assumption) ?_
  try simp only [Act.put, List.setIfInBounds_toArray, List.set_cons_zero, List.set_cons_succ]
  refine wpAnyH_take (i := 4) (oi := { dst := some 62, op := Op.call { callee := Callee.builtin Builtin.len, args := #[Operand.tmp 61], argTypes := #[30] }, type := 3, pos := "law.go:60", after := #[{ on := 3, ground := Ground.data }], guard := none }) (v := .int .i64 (m3 : Int)) rfl (by kernel_rfl) (by kernel_rfl) (by kernel_rfl) (fun _ _ _ h => h) (Or.inl ⟨by rfl, fun w hSw => by go_simp⟩) (by assumption) ?_
  try simp only [Act.put, List.setIfInBounds_toArray, List.set_cons_zero, List.set_cons_succ]
  refine wpAnyH_take (i := 5) (oi := { dst := some 63, op := Op.convert 3 22 (Operand.tmp 62), type := 22, pos := "law.go:60", after := #[{ on := 4, ground := Ground.data }], guard := none }) (v := .int .u64 (m3 : Int)) rfl (by kernel_rfl) (by kernel_rfl) (by kernel_rfl) (fun _ _ _ h => h) (Or.inl ⟨by rfl, fun w hSw => by go_simp⟩) (by assumption) ?_
  try simp only [Act.put, List.setIfInBounds_toArray, List.set_cons_zero, List.set_cons_succ]
  refine wpAnyH_take (i := 8) (oi := { dst := some 66, op := Op.move (Operand.tmp 3), type := 30, pos := "law.go:60", after := #[], guard := none }) (v := .slice A3 m3 c3) rfl (by kernel_rfl) (by kernel_rfl) (by kernel_rfl) (fun _ _ _ h => h) (Or.inl ⟨by rfl, fun w hSw => by go_simp⟩) (by assumption) ?_
  try simp only [Act.put, List.setIfInBounds_toArray, List.set_cons_zero, List.set_cons_succ]
  refine wpAnyH_ready (rs := [2, 6]) (by kernel_rfl) (by simp) ?_
  refine (AllReadyH.cons (o := { dst := some 60, op := Op.buildSlice 30 1 #[(0, Operand.tmp 59)], type := 30, pos := "law.go:60", after := #[{ on := 1, ground := Ground.data }], guard := none }) rfl (fun K hK => ?_) (AllReadyH.cons (o := { dst := some 64, op := Op.call { callee := Callee.value (Operand.func 15), args := #[Operand.tmp 63], argTypes := #[22] }, type := 30, pos := "law.go:60", after := #[{ on := 5, ground := Ground.data }], guard := none }) rfl (fun K hK => ?_) AllReadyH.nil))
  · go_simp
    have RK := one_row wd kb 3 HKb.out
    have hgk : w2.heap.size ≤ wd.heap.size := hb.size
    have hb1 : Below wd.heap.size wd (wd.alloc (.cells #[.int .u8 3] 5)) := (Below.refl _ _).alloc (Nat.le_refl _) _
    obtain ⟨g, hg⟩ : ∃ g, g = wd.heap.size := ⟨_, rfl⟩
    try (replace O4 := O4.kept hb1)
    replace hb := hb.trans (hb1.mono hb.size)
    rw [← hg] at RK hgk ⊢
    clear hg hb1
    generalize wd.alloc _ = wd at *
    refine hK.out _ _ ((hb.block w.heap.size HW.out.2.1).trans HW.out.1) (fun hHeld => ?_)
    clear hK K
    try simp only [Act.put, List.setIfInBounds_toArray, List.set_cons_zero, List.set_cons_succ]
    refine wpAnyH_ready (rs := [6]) (by kernel_rfl) (by simp) ?_
    refine AllReadyH.cons (o := { dst := some 64, op := Op.call { callee := Callee.value (Operand.func 15), args := #[Operand.tmp 63], argTypes := #[22] }, type := 30, pos := "law.go:60", after := #[{ on := 5, ground := Ground.data }], guard := none }) rfl (fun K hK => ?_) AllReadyH.nil
    go_simp
    with_reducible refine (HCn.out _).mono ?_
    rintro e wd ⟨v4, rfl, O4, B4⟩
    try (replace RK : Row wd g [kb] := (B4.block g RK.lt).trans RK)
    replace hb := hb.trans (B4.mono hb.size)
    obtain ⟨A4, c4, hv4, -, -, hn4⟩ := O4.form
    obtain ⟨m4, hm4⟩ : ∃ m4, m4 = (coin m3).length := ⟨_, rfl⟩
    rw [← hm4] at hv4
    subst hv4
    have HN4 := Lib.hid (And.intro hm4 hn4)
    clear hm4 hn4 B4
    refine hK.out _ _ ((hb.block w.heap.size HW.out.2.1).trans HW.out.1) (fun hHeld => ?_)
    clear hK K
    try simp only [Act.put, List.setIfInBounds_toArray, List.set_cons_zero, List.set_cons_succ]
    refine wpAnyH_ready (rs := [7]) (by kernel_rfl) (by simp) ?_
    refine AllReadyH.cons (o := { dst := some 65, op := Op.call { callee := Callee.builtin Builtin.append, args := #[Operand.tmp 60, Operand.tmp 64], argTypes := #[30, 30] }, type := 30, pos := "law.go:60", after := #[{ on := 2, ground := Ground.data }, { on := 6, ground := Ground.data }, { on := 6, ground := Ground.chain }], guard := none }) rfl (fun K hK => ?_) AllReadyH.nil
    have OK1 := RK.own (B := w.heap.size + 1) (Nat.le_trans HW.out.2.1 hgk) (by show 1 ≤ _; omega)
    obtain ⟨v5, w5, hrun, O5, G5⟩ := app_run (w := wd) (w.heap.size + 1) (.slice (some ⟨g, 0, none⟩) 1 1) [kb] (coin m3) A4 m4 c4 OK1 (O4.rd) HN4.out.1 HN4.out.2 (by have := sz_le m3; rw [length_coin]; simp; omega) (Nat.le_trans HW.out.2.1 hb.size)
    refine Lib.wp_append_run _ (.tmp 60) (.tmp 64) 30 30 rfl _ _ rfl rfl _ _ hrun ?_
    have O3 := (HW.out.2.2.1.kept hb).keptG G5 (own_ne2 HW.out.2.2.1 hgk)
    have hB5 : Below w.heap.size w w5 := (HW.out.2.2.2.2.trans (hb.mono HW.out.2.2.2.2.size)).grown G5 (Nat.le_trans HW.out.2.2.2.2.size hb.size) (fun k h => by (simp only [Value.ownBlock, Option.some.injEq] at h); subst h; exact Nat.le_trans HW.out.2.2.2.2.size hgk)
    have hrow : w5.heap[w.heap.size]? = some (.cells #[.int .u8 3, .int .u64 (n : Int), .int .i64 (d : Int), .int .u32 (a : Int), .int .u8 (l : Int), .int .u16 (s : Int), .int .u16 (m : Int)] 28 (0, 0)) := (G5.block w.heap.size (Nat.lt_of_lt_of_le HW.out.2.1 hb.size) (by simp only [Value.ownBlock]; intro h; injection h with h; have := HW.out.2.1; omega)).trans ((hb.block w.heap.size HW.out.2.1).trans HW.out.1)
    obtain ⟨A5, c5, hv5, -, -, -⟩ := O5.form
    obtain ⟨m5, hm5⟩ : ∃ m5, m5 = ([kb] ++ coin m3).length := ⟨_, rfl⟩
    rw [← hm5] at hv5
    subst hv5
    clear hm5
    refine hK.out _ _ hrow (fun hHeld => ?_)
    clear hK K
    try simp only [Act.put, List.setIfInBounds_toArray, List.set_cons_zero, List.set_cons_succ]
    refine wpAnyH_ready (rs := [9]) (by kernel_rfl) (by simp) ?_
    refine AllReadyH.cons (o := { dst := some 67, op := Op.call { callee := Callee.builtin Builtin.append, args := #[Operand.tmp 65, Operand.tmp 66], argTypes := #[30, 30] }, type := 30, pos := "law.go:60", after := #[{ on := 7, ground := Ground.data }, { on := 8, ground := Ground.data }, { on := 7, ground := Ground.chain }], guard := none }) rfl (fun K hK => ?_) AllReadyH.nil
    obtain ⟨v6, w6, hrun6, O6, G6⟩ := app_run (w := w5) (w.heap.size + 1) (.slice A5 m5 c5) ([kb] ++ coin m3) bs A3 m3 c3 O5 O3.rd HW.out.2.2.2.1.1 HW.out.2.2.2.1.2 (by have := sz_le m3; have := HW.out.2.2.2.1.1; rw [List.length_append, length_coin]; simp; omega) (Array.getElem?_eq_some_iff.1 hrow).1
    refine Lib.wp_append_run _ (.tmp 65) (.tmp 66) 30 30 rfl _ _ rfl rfl _ _ hrun6 ?_
    have hB6 : Below w.heap.size w w6 := hB5.grown G6 hB5.size (fun k h => Nat.le_trans (Nat.le_succ _) (O5.lt k h).1)
    have hrow6 : w6.heap[w.heap.size]? = some (.cells #[.int .u8 3, .int .u64 (n : Int), .int .i64 (d : Int), .int .u32 (a : Int), .int .u8 (l : Int), .int .u16 (s : Int), .int .u16 (m : Int)] 28 (0, 0)) := (G6.block w.heap.size (Array.getElem?_eq_some_iff.1 hrow).1 (fun h => by have := (O5.lt w.heap.size h.symm).1; omega)).trans hrow
    refine hK.out _ _ hrow6 (fun hHeld => ?_)
    clear hK K
    try simp only [Act.put, List.setIfInBounds_toArray, List.set_cons_zero, List.set_cons_succ]
    have HE := Lib.hid (And.intro O6 hB6)
    clear hrun hrun6 G5 G6 O5 O3 hB5 hrow O6 hB6
    refine wpAnyH_take (i := 10) (oi := { dst := some 2, op := Op.assign (Operand.tmp 67), type := 30, pos := "law.go:60", after := #[{ on := 9, ground := Ground.data }, { on := 9, ground := Ground.chain }, { on := 0, ground := Ground.phase }, { on := 1, ground := Ground.phase }, { on := 2, ground := Ground.phase }, { on := 3, ground := Ground.phase }, { on := 4, ground := Ground.phase }, { on := 5, ground := Ground.phase }, { on := 6, ground := Ground.phase }, { on := 7, ground := Ground.phase }, { on := 8, ground := Ground.phase }, { on := 9, ground := Ground.phase }], guard := none }) (v := v6) rfl (by kernel_rfl) (by kernel_rfl) (by kernel_rfl) (fun _ _ _ h => h) (Or.inl ⟨by rfl, fun w hSw => by go_simp⟩) (by assumption) ?_
    try simp only [Act.put, List.setIfInBounds_toArray, List.set_cons_zero, List.set_cons_succ]
    refine wpAnyH_done (by kernel_rfl) ?_ _
    try unfold NoPanic
    go_wp2
    go_ret
    exact ⟨v6, rfl, by have h := own_mono HE.out.1 (Nat.le_succ _); rw [HW.out.2.2.2.1.1] at h; exact h, HE.out.2⟩
  · go_simp
    with_reducible refine (HCn.out _).mono ?_
    rintro e wd ⟨v4, rfl, O4, B4⟩
    try (replace RK : Row wd g [kb] := (B4.block g RK.lt).trans RK)
    replace hb := hb.trans (B4.mono hb.size)
    obtain ⟨A4, c4, hv4, -, -, hn4⟩ := O4.form
    obtain ⟨m4, hm4⟩ : ∃ m4, m4 = (coin m3).length := ⟨_, rfl⟩
    rw [← hm4] at hv4
    subst hv4
    have HN4 := Lib.hid (And.intro hm4 hn4)
    clear hm4 hn4 B4
    refine hK.out _ _ ((hb.block w.heap.size HW.out.2.1).trans HW.out.1) (fun hHeld => ?_)
    clear hK K
    try simp only [Act.put, List.setIfInBounds_toArray, List.set_cons_zero, List.set_cons_succ]
    refine wpAnyH_ready (rs := [2]) (by kernel_rfl) (by simp) ?_
    refine AllReadyH.cons (o := { dst := some 60, op := Op.buildSlice 30 1 #[(0, Operand.tmp 59)], type := 30, pos := "law.go:60", after := #[{ on := 1, ground := Ground.data }], guard := none }) rfl (fun K hK => ?_) AllReadyH.nil
    go_simp
    have RK := one_row wd kb 3 HKb.out
    have hgk : w2.heap.size ≤ wd.heap.size := hb.size
    have hb1 : Below wd.heap.size wd (wd.alloc (.cells #[.int .u8 3] 5)) := (Below.refl _ _).alloc (Nat.le_refl _) _
    obtain ⟨g, hg⟩ : ∃ g, g = wd.heap.size := ⟨_, rfl⟩
    try (replace O4 := O4.kept hb1)
    replace hb := hb.trans (hb1.mono hb.size)
    rw [← hg] at RK hgk ⊢
    clear hg hb1
    generalize wd.alloc _ = wd at *
    refine hK.out _ _ ((hb.block w.heap.size HW.out.2.1).trans HW.out.1) (fun hHeld => ?_)
    clear hK K
    try simp only [Act.put, List.setIfInBounds_toArray, List.set_cons_zero, List.set_cons_succ]
    refine wpAnyH_ready (rs := [7]) (by kernel_rfl) (by simp) ?_
    refine AllReadyH.cons (o := { dst := some 65, op := Op.call { callee := Callee.builtin Builtin.append, args := #[Operand.tmp 60, Operand.tmp 64], argTypes := #[30, 30] }, type := 30, pos := "law.go:60", after := #[{ on := 2, ground := Ground.data }, { on := 6, ground := Ground.data }, { on := 6, ground := Ground.chain }], guard := none }) rfl (fun K hK => ?_) AllReadyH.nil
    have OK1 := RK.own (B := w.heap.size + 1) (Nat.le_trans HW.out.2.1 hgk) (by show 1 ≤ _; omega)
    obtain ⟨v5, w5, hrun, O5, G5⟩ := app_run (w := wd) (w.heap.size + 1) (.slice (some ⟨g, 0, none⟩) 1 1) [kb] (coin m3) A4 m4 c4 OK1 (O4.rd) HN4.out.1 HN4.out.2 (by have := sz_le m3; rw [length_coin]; simp; omega) (Nat.le_trans HW.out.2.1 hb.size)
    refine Lib.wp_append_run _ (.tmp 60) (.tmp 64) 30 30 rfl _ _ rfl rfl _ _ hrun ?_
    have O3 := (HW.out.2.2.1.kept hb).keptG G5 (own_ne2 HW.out.2.2.1 hgk)
    have hB5 : Below w.heap.size w w5 := (HW.out.2.2.2.2.trans (hb.mono HW.out.2.2.2.2.size)).grown G5 (Nat.le_trans HW.out.2.2.2.2.size hb.size) (fun k h => by (simp only [Value.ownBlock, Option.some.injEq] at h); subst h; exact Nat.le_trans HW.out.2.2.2.2.size hgk)
    have hrow : w5.heap[w.heap.size]? = some (.cells #[.int .u8 3, .int .u64 (n : Int), .int .i64 (d : Int), .int .u32 (a : Int), .int .u8 (l : Int), .int .u16 (s : Int), .int .u16 (m : Int)] 28 (0, 0)) := (G5.block w.heap.size (Nat.lt_of_lt_of_le HW.out.2.1 hb.size) (by simp only [Value.ownBlock]; intro h; injection h with h; have := HW.out.2.1; omega)).trans ((hb.block w.heap.size HW.out.2.1).trans HW.out.1)
    obtain ⟨A5, c5, hv5, -, -, -⟩ := O5.form
    obtain ⟨m5, hm5⟩ : ∃ m5, m5 = ([kb] ++ coin m3).length := ⟨_, rfl⟩
    rw [← hm5] at hv5
    subst hv5
    clear hm5
    refine hK.out _ _ hrow (fun hHeld => ?_)
    clear hK K
    try simp only [Act.put, List.setIfInBounds_toArray, List.set_cons_zero, List.set_cons_succ]
    refine wpAnyH_ready (rs := [9]) (by kernel_rfl) (by simp) ?_
    refine AllReadyH.cons (o := { dst := some 67, op := Op.call { callee := Callee.builtin Builtin.append, args := #[Operand.tmp 65, Operand.tmp 66], argTypes := #[30, 30] }, type := 30, pos := "law.go:60", after := #[{ on := 7, ground := Ground.data }, { on := 8, ground := Ground.data }, { on := 7, ground := Ground.chain }], guard := none }) rfl (fun K hK => ?_) AllReadyH.nil
    obtain ⟨v6, w6, hrun6, O6, G6⟩ := app_run (w := w5) (w.heap.size + 1) (.slice A5 m5 c5) ([kb] ++ coin m3) bs A3 m3 c3 O5 O3.rd HW.out.2.2.2.1.1 HW.out.2.2.2.1.2 (by have := sz_le m3; have := HW.out.2.2.2.1.1; rw [List.length_append, length_coin]; simp; omega) (Array.getElem?_eq_some_iff.1 hrow).1
    refine Lib.wp_append_run _ (.tmp 65) (.tmp 66) 30 30 rfl _ _ rfl rfl _ _ hrun6 ?_
    have hB6 : Below w.heap.size w w6 := hB5.grown G6 hB5.size (fun k h => Nat.le_trans (Nat.le_succ _) (O5.lt k h).1)
    have hrow6 : w6.heap[w.heap.size]? = some (.cells #[.int .u8 3, .int .u64 (n : Int), .int .i64 (d : Int), .int .u32 (a : Int), .int .u8 (l : Int), .int .u16 (s : Int), .int .u16 (m : Int)] 28 (0, 0)) := (G6.block w.heap.size (Array.getElem?_eq_some_iff.1 hrow).1 (fun h => by have := (O5.lt w.heap.size h.symm).1; omega)).trans hrow
    refine hK.out _ _ hrow6 (fun hHeld => ?_)
    clear hK K
    try simp only [Act.put, List.setIfInBounds_toArray, List.set_cons_zero, List.set_cons_succ]
    have HE := Lib.hid (And.intro O6 hB6)
    clear hrun hrun6 G5 G6 O5 O3 hB5 hrow O6 hB6
    refine wpAnyH_take (i := 10) (oi := { dst := some 2, op := Op.assign (Operand.tmp 67), type := 30, pos := "law.go:60", after := #[{ on := 9, ground := Ground.data }, { on := 9, ground := Ground.chain }, { on := 0, ground := Ground.phase }, { on := 1, ground := Ground.phase }, { on := 2, ground := Ground.phase }, { on := 3, ground := Ground.phase }, { on := 4, ground := Ground.phase }, { on := 5, ground := Ground.phase }, { on := 6, ground := Ground.phase }, { on := 7, ground := Ground.phase }, { on := 8, ground := Ground.phase }, { on := 9, ground := Ground.phase }], guard := none }) (v := v6) rfl (by kernel_rfl) (by kernel_rfl) (by kernel_rfl) (fun _ _ _ h => h) (Or.inl ⟨by rfl, fun w hSw => by go_simp⟩) (by assumption) ?_
    try simp only [Act.put, List.setIfInBounds_toArray, List.set_cons_zero, List.set_cons_succ]
    refine wpAnyH_done (by kernel_rfl) ?_ _
    try unfold NoPanic
    go_wp2
    go_ret
    exact ⟨v6, rfl, by have h := own_mono HE.out.1 (Nat.le_succ _); rw [HW.out.2.2.2.1.1] at h; exact h, HE.out.2⟩
set_option maxHeartbeats 2000000 in
theorem byt4 (n d a l s m : Nat) (hn : n < 18446744073709551616) (hd : d < 16) (ha : a < 4294967296) (hl : l < 256) (hs : s < 65536) (hm : m < 65536) (kb : UInt8) (hkb : 4 = kb.toNat) (w : World) :
    Calls Try.prog 11 #[.agg #[.int .u8 4, .int .u64 (n : Int), .int .i64 (d : Int), .int .u32 (a : Int), .int .u8 (l : Int), .int .u16 (s : Int), .int .u16 (m : Int)]] w (CoinOwn w (kb :: (coin (coins [a, l, s, n]).length ++ coins [a, l, s, n]))) := by
  have B0 : Below w.heap.size w (w.alloc (.cells #[.int .u8 4, .int .u64 (n : Int), .int .i64 (d : Int), .int .u32 (a : Int), .int .u8 (l : Int), .int .u16 (s : Int), .int .u16 (m : Int)] 28)) := (Below.refl w.heap.size w).alloc (Nat.le_refl _) _
  have R0 := heap_alloc_new w (.cells #[.int .u8 4, .int .u64 (n : Int), .int .i64 (d : Int), .int .u32 (a : Int), .int .u8 (l : Int), .int .u16 (s : Int), .int .u16 (m : Int)] 28)
  have R1 := heap_alloc_new (w.alloc (.cells #[.int .u8 4, .int .u64 (n : Int), .int .i64 (d : Int), .int .u32 (a : Int), .int .u8 (l : Int), .int .u16 (s : Int), .int .u16 (m : Int)] 28)) (.cells #[.int .u64 (a : Int), .int .u64 (l : Int), .int .u64 (s : Int), .int .u64 (n : Int)] 22)
  rw [show (w.alloc (.cells #[.int .u8 4, .int .u64 (n : Int), .int .i64 (d : Int), .int .u32 (a : Int), .int .u8 (l : Int), .int .u16 (s : Int), .int .u16 (m : Int)] 28)).heap.size = w.heap.size + 1 by simp] at R1
  have hc24 : ∀ W b, W.heap[b]? = some (.cells #[.int .u64 (a : Int), .int .u64 (l : Int), .int .u64 (s : Int), .int .u64 (n : Int)] 22 (0, 0)) → Calls Try.prog 24 #[.slice (some ⟨b, 0, none⟩) 4 4] W (CoinOwn W (coins [a, l, s, n])) := fun W b hb => rcoins_any W b 4 [a, l, s, n] hb (by intro k hk; simp at hk; omega) rfl (by decide)
  have hcl := coins_len [a, l, s, n]
  simp only [List.length_cons, List.length_nil] at hcl
  have hw1 : IntKind.u64.wrap (d : Int) = d := by rw [wrap_u64]; omega
  have hw2 : IntKind.u64.wrap (m : Int) = m := by rw [wrap_u64]; omega
  have hw3 : IntKind.u64.wrap (a : Int) = a := by rw [wrap_u64]; omega
  have hw4 : IntKind.u64.wrap (l : Int) = l := by rw [wrap_u64]; omega
  have hw5 : IntKind.u64.wrap (s : Int) = s := by rw [wrap_u64]; omega
  generalize coins [a, l, s, n] = bs at *
  obtain ⟨m3, hm3⟩ : ∃ m3, m3 = bs.length := ⟨_, rfl⟩
  have HX := Lib.hid (And.intro hc24 (And.intro B0 (And.intro R0 (And.intro R1 hm3))))
  rw [← hm3] at hcl
  have hw6 : IntKind.u64.wrap (m3 : Int) = m3 := by rw [wrap_u64]; omega
  have HCn : Hid (∀ W : World, Calls Try.prog 15 #[.int .u64 (m3 : Int)] W (CoinOwn W (coin m3))) := fun W => rcoin_own m3 (by omega) W
  have HKb := Lib.hid hkb
  clear hc24 B0 R0 R1 hm3 hkb
  go_enter Try.func11, Try.ntmps11
  go_upto_region 10 with (go_at_call 24; (with_reducible refine (HX.out.1 _ (w.heap.size + 1) HX.out.2.2.2.1).mono ?_); (rintro e w2 ⟨v3, rfl, O3, B3⟩; obtain ⟨A3, c3, hv3, -, -, hn3⟩ := O3.form; rw [← HX.out.2.2.2.2] at hv3; subst hv3; have HW : Hid (w2.heap[w.heap.size]? = some (.cells #[.int .u8 4, .int .u64 (n : Int), .int .i64 (d : Int), .int .u32 (a : Int), .int .u8 (l : Int), .int .u16 (s : Int), .int .u16 (m : Int)] 28 (0, 0)) ∧ w.heap.size < w2.heap.size ∧ Own w2 _ (.slice A3 m3 c3) bs ∧ (m3 = bs.length ∧ (A3 = none → c3 = 0)) ∧ Below w.heap.size w w2) := ⟨(B3.block w.heap.size (by simp; omega)).trans ((heap_alloc_old _ _ (by simp)).trans HX.out.2.2.1), Nat.lt_of_lt_of_le (by simp; omega) B3.size, O3, ⟨HX.out.2.2.2.2, hn3⟩, (HX.out.2.1.alloc (by simp) _).trans (B3.mono (by simp; omega))⟩; clear O3 B3 hn3))
  refine wp_region_noPanic ?_
  refine wp_region_held_drew (S := fun W : World => W.heap[w.heap.size]? = some (.cells #[.int .u8 4, .int .u64 (n : Int), .int .i64 (d : Int), .int .u32 (a : Int), .int .u8 (l : Int), .int .u16 (s : Int), .int .u16 (m : Int)] 28 (0, 0))) (by kernel_rfl) HW.out.1 (fun hHeld => ?_)
  have hb : Below w2.heap.size w2 w2.drew := (Below.refl _ w2).drew
  generalize w2.drew = wd at *
  refine wpAnyH_take (i := 0) (oi := { dst := some 58, op := Op.fieldAddr 28 (Operand.tmp 1) 0, type := 0, pos := "law.go:60", after := #[], guard := none }) (v := .pointer (some ⟨w.heap.size, 0, none⟩)) rfl (by kernel_rfl) (by kernel_rfl) (by kernel_rfl) (fun _ _ _ h => h) (Or.inl ⟨by rfl, fun w hSw => by go_simp⟩) (by assumption) ?_
  try simp only [Act.put, List.setIfInBounds_toArray, List.set_cons_zero, List.set_cons_succ]
  refine wpAnyH_take (i := 1) (oi := { dst := some 59, op := Op.load 5 (Operand.tmp 58), type := 5, pos := "law.go:60", after := #[{ on := 0, ground := Ground.data }], guard := none }) (v := .int .u8 4) rfl (by kernel_rfl) (by kernel_rfl) (by kernel_rfl) (fun _ _ _ h => h) (Or.inl ⟨by rfl, fun w hSw => by obtain ⟨⟨q0, q1, q2, q3, q4, q5, q6⟩, -⟩ := row7 hSw; go_simp⟩) (by assumption) ?_
  try simp only [Act.put, List.setIfInBounds_toArray, List.set_cons_zero, List.set_cons_succ]
  refine wpAnyH_take (i := 3) (oi := { dst := some 61, op := Op.move (Operand.tmp 3), type := 30, pos := "law.go:60", after := #[], guard := none }) (v := .slice A3 m3 c3) rfl (by kernel_rfl) (by kernel_rfl) (by kernel_rfl) (fun _ _ _ h => h) (Or.inl ⟨by rfl, fun w hSw => by go_simp⟩) (by assumption) ?_
  try simp only [Act.put, List.setIfInBounds_toArray, List.set_cons_zero, List.set_cons_succ]
  refine wpAnyH_take (i := 4) (oi := { dst := some 62, op := Op.call { callee := Callee.builtin Builtin.len, args := #[Operand.tmp 61], argTypes := #[30] }, type := 3, pos := "law.go:60", after := #[{ on := 3, ground := Ground.data }], guard := none }) (v := .int .i64 (m3 : Int)) rfl (by kernel_rfl) (by kernel_rfl) (by kernel_rfl) (fun _ _ _ h => h) (Or.inl ⟨by rfl, fun w hSw => by go_simp⟩) (by assumption) ?_
  try simp only [Act.put, List.setIfInBounds_toArray, List.set_cons_zero, List.set_cons_succ]
  refine wpAnyH_take (i := 5) (oi := { dst := some 63, op := Op.convert 3 22 (Operand.tmp 62), type := 22, pos := "law.go:60", after := #[{ on := 4, ground := Ground.data }], guard := none }) (v := .int .u64 (m3 : Int)) rfl (by kernel_rfl) (by kernel_rfl) (by kernel_rfl) (fun _ _ _ h => h) (Or.inl ⟨by rfl, fun w hSw => by go_simp⟩) (by assumption) ?_
  try simp only [Act.put, List.setIfInBounds_toArray, List.set_cons_zero, List.set_cons_succ]
  refine wpAnyH_take (i := 8) (oi := { dst := some 66, op := Op.move (Operand.tmp 3), type := 30, pos := "law.go:60", after := #[], guard := none }) (v := .slice A3 m3 c3) rfl (by kernel_rfl) (by kernel_rfl) (by kernel_rfl) (fun _ _ _ h => h) (Or.inl ⟨by rfl, fun w hSw => by go_simp⟩) (by assumption) ?_
  try simp only [Act.put, List.setIfInBounds_toArray, List.set_cons_zero, List.set_cons_succ]
  refine wpAnyH_ready (rs := [2, 6]) (by kernel_rfl) (by simp) ?_
  refine (AllReadyH.cons (o := { dst := some 60, op := Op.buildSlice 30 1 #[(0, Operand.tmp 59)], type := 30, pos := "law.go:60", after := #[{ on := 1, ground := Ground.data }], guard := none }) rfl (fun K hK => ?_) (AllReadyH.cons (o := { dst := some 64, op := Op.call { callee := Callee.value (Operand.func 15), args := #[Operand.tmp 63], argTypes := #[22] }, type := 30, pos := "law.go:60", after := #[{ on := 5, ground := Ground.data }], guard := none }) rfl (fun K hK => ?_) AllReadyH.nil))
  · go_simp
    have RK := one_row wd kb 4 HKb.out
    have hgk : w2.heap.size ≤ wd.heap.size := hb.size
    have hb1 : Below wd.heap.size wd (wd.alloc (.cells #[.int .u8 4] 5)) := (Below.refl _ _).alloc (Nat.le_refl _) _
    obtain ⟨g, hg⟩ : ∃ g, g = wd.heap.size := ⟨_, rfl⟩
    try (replace O4 := O4.kept hb1)
    replace hb := hb.trans (hb1.mono hb.size)
    rw [← hg] at RK hgk ⊢
    clear hg hb1
    generalize wd.alloc _ = wd at *
    refine hK.out _ _ ((hb.block w.heap.size HW.out.2.1).trans HW.out.1) (fun hHeld => ?_)
    clear hK K
    try simp only [Act.put, List.setIfInBounds_toArray, List.set_cons_zero, List.set_cons_succ]
    refine wpAnyH_ready (rs := [6]) (by kernel_rfl) (by simp) ?_
    refine AllReadyH.cons (o := { dst := some 64, op := Op.call { callee := Callee.value (Operand.func 15), args := #[Operand.tmp 63], argTypes := #[22] }, type := 30, pos := "law.go:60", after := #[{ on := 5, ground := Ground.data }], guard := none }) rfl (fun K hK => ?_) AllReadyH.nil
    go_simp
    with_reducible refine (HCn.out _).mono ?_
    rintro e wd ⟨v4, rfl, O4, B4⟩
    try (replace RK : Row wd g [kb] := (B4.block g RK.lt).trans RK)
    replace hb := hb.trans (B4.mono hb.size)
    obtain ⟨A4, c4, hv4, -, -, hn4⟩ := O4.form
    obtain ⟨m4, hm4⟩ : ∃ m4, m4 = (coin m3).length := ⟨_, rfl⟩
    rw [← hm4] at hv4
    subst hv4
    have HN4 := Lib.hid (And.intro hm4 hn4)
    clear hm4 hn4 B4
    refine hK.out _ _ ((hb.block w.heap.size HW.out.2.1).trans HW.out.1) (fun hHeld => ?_)
    clear hK K
    try simp only [Act.put, List.setIfInBounds_toArray, List.set_cons_zero, List.set_cons_succ]
    refine wpAnyH_ready (rs := [7]) (by kernel_rfl) (by simp) ?_
    refine AllReadyH.cons (o := { dst := some 65, op := Op.call { callee := Callee.builtin Builtin.append, args := #[Operand.tmp 60, Operand.tmp 64], argTypes := #[30, 30] }, type := 30, pos := "law.go:60", after := #[{ on := 2, ground := Ground.data }, { on := 6, ground := Ground.data }, { on := 6, ground := Ground.chain }], guard := none }) rfl (fun K hK => ?_) AllReadyH.nil
    have OK1 := RK.own (B := w.heap.size + 1) (Nat.le_trans HW.out.2.1 hgk) (by show 1 ≤ _; omega)
    obtain ⟨v5, w5, hrun, O5, G5⟩ := app_run (w := wd) (w.heap.size + 1) (.slice (some ⟨g, 0, none⟩) 1 1) [kb] (coin m3) A4 m4 c4 OK1 (O4.rd) HN4.out.1 HN4.out.2 (by have := sz_le m3; rw [length_coin]; simp; omega) (Nat.le_trans HW.out.2.1 hb.size)
    refine Lib.wp_append_run _ (.tmp 60) (.tmp 64) 30 30 rfl _ _ rfl rfl _ _ hrun ?_
    have O3 := (HW.out.2.2.1.kept hb).keptG G5 (own_ne2 HW.out.2.2.1 hgk)
    have hB5 : Below w.heap.size w w5 := (HW.out.2.2.2.2.trans (hb.mono HW.out.2.2.2.2.size)).grown G5 (Nat.le_trans HW.out.2.2.2.2.size hb.size) (fun k h => by (simp only [Value.ownBlock, Option.some.injEq] at h); subst h; exact Nat.le_trans HW.out.2.2.2.2.size hgk)
    have hrow : w5.heap[w.heap.size]? = some (.cells #[.int .u8 4, .int .u64 (n : Int), .int .i64 (d : Int), .int .u32 (a : Int), .int .u8 (l : Int), .int .u16 (s : Int), .int .u16 (m : Int)] 28 (0, 0)) := (G5.block w.heap.size (Nat.lt_of_lt_of_le HW.out.2.1 hb.size) (by simp only [Value.ownBlock]; intro h; injection h with h; have := HW.out.2.1; omega)).trans ((hb.block w.heap.size HW.out.2.1).trans HW.out.1)
    obtain ⟨A5, c5, hv5, -, -, -⟩ := O5.form
    obtain ⟨m5, hm5⟩ : ∃ m5, m5 = ([kb] ++ coin m3).length := ⟨_, rfl⟩
    rw [← hm5] at hv5
    subst hv5
    clear hm5
    refine hK.out _ _ hrow (fun hHeld => ?_)
    clear hK K
    try simp only [Act.put, List.setIfInBounds_toArray, List.set_cons_zero, List.set_cons_succ]
    refine wpAnyH_ready (rs := [9]) (by kernel_rfl) (by simp) ?_
    refine AllReadyH.cons (o := { dst := some 67, op := Op.call { callee := Callee.builtin Builtin.append, args := #[Operand.tmp 65, Operand.tmp 66], argTypes := #[30, 30] }, type := 30, pos := "law.go:60", after := #[{ on := 7, ground := Ground.data }, { on := 8, ground := Ground.data }, { on := 7, ground := Ground.chain }], guard := none }) rfl (fun K hK => ?_) AllReadyH.nil
    obtain ⟨v6, w6, hrun6, O6, G6⟩ := app_run (w := w5) (w.heap.size + 1) (.slice A5 m5 c5) ([kb] ++ coin m3) bs A3 m3 c3 O5 O3.rd HW.out.2.2.2.1.1 HW.out.2.2.2.1.2 (by have := sz_le m3; have := HW.out.2.2.2.1.1; rw [List.length_append, length_coin]; simp; omega) (Array.getElem?_eq_some_iff.1 hrow).1
    refine Lib.wp_append_run _ (.tmp 65) (.tmp 66) 30 30 rfl _ _ rfl rfl _ _ hrun6 ?_
    have hB6 : Below w.heap.size w w6 := hB5.grown G6 hB5.size (fun k h => Nat.le_trans (Nat.le_succ _) (O5.lt k h).1)
    have hrow6 : w6.heap[w.heap.size]? = some (.cells #[.int .u8 4, .int .u64 (n : Int), .int .i64 (d : Int), .int .u32 (a : Int), .int .u8 (l : Int), .int .u16 (s : Int), .int .u16 (m : Int)] 28 (0, 0)) := (G6.block w.heap.size (Array.getElem?_eq_some_iff.1 hrow).1 (fun h => by have := (O5.lt w.heap.size h.symm).1; omega)).trans hrow
    refine hK.out _ _ hrow6 (fun hHeld => ?_)
    clear hK K
    try simp only [Act.put, List.setIfInBounds_toArray, List.set_cons_zero, List.set_cons_succ]
    have HE := Lib.hid (And.intro O6 hB6)
    clear hrun hrun6 G5 G6 O5 O3 hB5 hrow O6 hB6
    refine wpAnyH_take (i := 10) (oi := { dst := some 2, op := Op.assign (Operand.tmp 67), type := 30, pos := "law.go:60", after := #[{ on := 9, ground := Ground.data }, { on := 9, ground := Ground.chain }, { on := 0, ground := Ground.phase }, { on := 1, ground := Ground.phase }, { on := 2, ground := Ground.phase }, { on := 3, ground := Ground.phase }, { on := 4, ground := Ground.phase }, { on := 5, ground := Ground.phase }, { on := 6, ground := Ground.phase }, { on := 7, ground := Ground.phase }, { on := 8, ground := Ground.phase }, { on := 9, ground := Ground.phase }], guard := none }) (v := v6) rfl (by kernel_rfl) (by kernel_rfl) (by kernel_rfl) (fun _ _ _ h => h) (Or.inl ⟨by rfl, fun w hSw => by go_simp⟩) (by assumption) ?_
    try simp only [Act.put, List.setIfInBounds_toArray, List.set_cons_zero, List.set_cons_succ]
    refine wpAnyH_done (by kernel_rfl) ?_ _
    try unfold NoPanic
    go_wp2
    go_ret
    exact ⟨v6, rfl, by have h := own_mono HE.out.1 (Nat.le_succ _); rw [HW.out.2.2.2.1.1] at h; exact h, HE.out.2⟩
  · go_simp
    with_reducible refine (HCn.out _).mono ?_
    rintro e wd ⟨v4, rfl, O4, B4⟩
    try (replace RK : Row wd g [kb] := (B4.block g RK.lt).trans RK)
    replace hb := hb.trans (B4.mono hb.size)
    obtain ⟨A4, c4, hv4, -, -, hn4⟩ := O4.form
    obtain ⟨m4, hm4⟩ : ∃ m4, m4 = (coin m3).length := ⟨_, rfl⟩
    rw [← hm4] at hv4
    subst hv4
    have HN4 := Lib.hid (And.intro hm4 hn4)
    clear hm4 hn4 B4
    refine hK.out _ _ ((hb.block w.heap.size HW.out.2.1).trans HW.out.1) (fun hHeld => ?_)
    clear hK K
    try simp only [Act.put, List.setIfInBounds_toArray, List.set_cons_zero, List.set_cons_succ]
    refine wpAnyH_ready (rs := [2]) (by kernel_rfl) (by simp) ?_
    refine AllReadyH.cons (o := { dst := some 60, op := Op.buildSlice 30 1 #[(0, Operand.tmp 59)], type := 30, pos := "law.go:60", after := #[{ on := 1, ground := Ground.data }], guard := none }) rfl (fun K hK => ?_) AllReadyH.nil
    go_simp
    have RK := one_row wd kb 4 HKb.out
    have hgk : w2.heap.size ≤ wd.heap.size := hb.size
    have hb1 : Below wd.heap.size wd (wd.alloc (.cells #[.int .u8 4] 5)) := (Below.refl _ _).alloc (Nat.le_refl _) _
    obtain ⟨g, hg⟩ : ∃ g, g = wd.heap.size := ⟨_, rfl⟩
    try (replace O4 := O4.kept hb1)
    replace hb := hb.trans (hb1.mono hb.size)
    rw [← hg] at RK hgk ⊢
    clear hg hb1
    generalize wd.alloc _ = wd at *
    refine hK.out _ _ ((hb.block w.heap.size HW.out.2.1).trans HW.out.1) (fun hHeld => ?_)
    clear hK K
    try simp only [Act.put, List.setIfInBounds_toArray, List.set_cons_zero, List.set_cons_succ]
    refine wpAnyH_ready (rs := [7]) (by kernel_rfl) (by simp) ?_
    refine AllReadyH.cons (o := { dst := some 65, op := Op.call { callee := Callee.builtin Builtin.append, args := #[Operand.tmp 60, Operand.tmp 64], argTypes := #[30, 30] }, type := 30, pos := "law.go:60", after := #[{ on := 2, ground := Ground.data }, { on := 6, ground := Ground.data }, { on := 6, ground := Ground.chain }], guard := none }) rfl (fun K hK => ?_) AllReadyH.nil
    have OK1 := RK.own (B := w.heap.size + 1) (Nat.le_trans HW.out.2.1 hgk) (by show 1 ≤ _; omega)
    obtain ⟨v5, w5, hrun, O5, G5⟩ := app_run (w := wd) (w.heap.size + 1) (.slice (some ⟨g, 0, none⟩) 1 1) [kb] (coin m3) A4 m4 c4 OK1 (O4.rd) HN4.out.1 HN4.out.2 (by have := sz_le m3; rw [length_coin]; simp; omega) (Nat.le_trans HW.out.2.1 hb.size)
    refine Lib.wp_append_run _ (.tmp 60) (.tmp 64) 30 30 rfl _ _ rfl rfl _ _ hrun ?_
    have O3 := (HW.out.2.2.1.kept hb).keptG G5 (own_ne2 HW.out.2.2.1 hgk)
    have hB5 : Below w.heap.size w w5 := (HW.out.2.2.2.2.trans (hb.mono HW.out.2.2.2.2.size)).grown G5 (Nat.le_trans HW.out.2.2.2.2.size hb.size) (fun k h => by (simp only [Value.ownBlock, Option.some.injEq] at h); subst h; exact Nat.le_trans HW.out.2.2.2.2.size hgk)
    have hrow : w5.heap[w.heap.size]? = some (.cells #[.int .u8 4, .int .u64 (n : Int), .int .i64 (d : Int), .int .u32 (a : Int), .int .u8 (l : Int), .int .u16 (s : Int), .int .u16 (m : Int)] 28 (0, 0)) := (G5.block w.heap.size (Nat.lt_of_lt_of_le HW.out.2.1 hb.size) (by simp only [Value.ownBlock]; intro h; injection h with h; have := HW.out.2.1; omega)).trans ((hb.block w.heap.size HW.out.2.1).trans HW.out.1)
    obtain ⟨A5, c5, hv5, -, -, -⟩ := O5.form
    obtain ⟨m5, hm5⟩ : ∃ m5, m5 = ([kb] ++ coin m3).length := ⟨_, rfl⟩
    rw [← hm5] at hv5
    subst hv5
    clear hm5
    refine hK.out _ _ hrow (fun hHeld => ?_)
    clear hK K
    try simp only [Act.put, List.setIfInBounds_toArray, List.set_cons_zero, List.set_cons_succ]
    refine wpAnyH_ready (rs := [9]) (by kernel_rfl) (by simp) ?_
    refine AllReadyH.cons (o := { dst := some 67, op := Op.call { callee := Callee.builtin Builtin.append, args := #[Operand.tmp 65, Operand.tmp 66], argTypes := #[30, 30] }, type := 30, pos := "law.go:60", after := #[{ on := 7, ground := Ground.data }, { on := 8, ground := Ground.data }, { on := 7, ground := Ground.chain }], guard := none }) rfl (fun K hK => ?_) AllReadyH.nil
    obtain ⟨v6, w6, hrun6, O6, G6⟩ := app_run (w := w5) (w.heap.size + 1) (.slice A5 m5 c5) ([kb] ++ coin m3) bs A3 m3 c3 O5 O3.rd HW.out.2.2.2.1.1 HW.out.2.2.2.1.2 (by have := sz_le m3; have := HW.out.2.2.2.1.1; rw [List.length_append, length_coin]; simp; omega) (Array.getElem?_eq_some_iff.1 hrow).1
    refine Lib.wp_append_run _ (.tmp 65) (.tmp 66) 30 30 rfl _ _ rfl rfl _ _ hrun6 ?_
    have hB6 : Below w.heap.size w w6 := hB5.grown G6 hB5.size (fun k h => Nat.le_trans (Nat.le_succ _) (O5.lt k h).1)
    have hrow6 : w6.heap[w.heap.size]? = some (.cells #[.int .u8 4, .int .u64 (n : Int), .int .i64 (d : Int), .int .u32 (a : Int), .int .u8 (l : Int), .int .u16 (s : Int), .int .u16 (m : Int)] 28 (0, 0)) := (G6.block w.heap.size (Array.getElem?_eq_some_iff.1 hrow).1 (fun h => by have := (O5.lt w.heap.size h.symm).1; omega)).trans hrow
    refine hK.out _ _ hrow6 (fun hHeld => ?_)
    clear hK K
    try simp only [Act.put, List.setIfInBounds_toArray, List.set_cons_zero, List.set_cons_succ]
    have HE := Lib.hid (And.intro O6 hB6)
    clear hrun hrun6 G5 G6 O5 O3 hB5 hrow O6 hB6
    refine wpAnyH_take (i := 10) (oi := { dst := some 2, op := Op.assign (Operand.tmp 67), type := 30, pos := "law.go:60", after := #[{ on := 9, ground := Ground.data }, { on := 9, ground := Ground.chain }, { on := 0, ground := Ground.phase }, { on := 1, ground := Ground.phase }, { on := 2, ground := Ground.phase }, { on := 3, ground := Ground.phase }, { on := 4, ground := Ground.phase }, { on := 5, ground := Ground.phase }, { on := 6, ground := Ground.phase }, { on := 7, ground := Ground.phase }, { on := 8, ground := Ground.phase }, { on := 9, ground := Ground.phase }], guard := none }) (v := v6) rfl (by kernel_rfl) (by kernel_rfl) (by kernel_rfl) (fun _ _ _ h => h) (Or.inl ⟨by rfl, fun w hSw => by go_simp⟩) (by assumption) ?_
    try simp only [Act.put, List.setIfInBounds_toArray, List.set_cons_zero, List.set_cons_succ]
    refine wpAnyH_done (by kernel_rfl) ?_ _
    try unfold NoPanic
    go_wp2
    go_ret
    exact ⟨v6, rfl, by have h := own_mono HE.out.1 (Nat.le_succ _); rw [HW.out.2.2.2.1.1] at h; exact h, HE.out.2⟩
theorem rbytes_any (x : Pt) (hx : x.Fits) (hr : x.rt = true) (w : World) : Calls Try.prog 11 #[.agg x.cl.toArray] w (CoinOwn w x.bytes) := by
  obtain ⟨d, hd, hd2⟩ := rt_nd hr
  have hk := rt_k hr
  obtain ⟨k, n, nd, a, l, s, m⟩ := x
  have h1 := hx.n
  have h2 := hx.a
  have h3 := hx.l
  have h4 := hx.s
  have h5 := hx.m
  simp only at h1 h2 h3 h4 h5 hd hk
  subst hd
  show Calls Try.prog 11 #[.agg #[.int .u8 (k : Int), .int .u64 (n : Int), .int .i64 (d : Int), .int .u32 (a : Int), .int .u8 (l : Int), .int .u16 (s : Int), .int .u16 (m : Int)]] w _
  rcases hk with rfl | rfl | rfl | rfl
  · exact byt1 n d a l s m h1 hd2 h2 h3 h4 h5 1 rfl w
  · exact byt2 n d a l s m h1 hd2 h2 h3 h4 h5 2 rfl w
  · exact byt3 n d a l s m h1 hd2 h2 h3 h4 h5 3 rfl w
  · exact byt4 n d a l s m h1 hd2 h2 h3 h4 h5 4 rfl w
end Go.Proofs.Ytecfblkagbdjlaa.Msg
