/- What coin.Get answers. What a Purse answers, and what becomes of it. A Purse's Bytes, and NewPurse. 'append' of bytes to a row of the call's own, the source nil or not. The document's own answer: a number as bytes. The document's own answer: the number ahead of some bytes. -/
import Derived.Test.YtdbhgkbmbbjpdaaGreatDoorPut
import Derived.Laws.AppendOwnNone
import Derived.Deep.RegionWith
import Derived.Deep.RegionHeld3
namespace Go.Proofs.YtdbhgkbmbbjpdaaGreatDoor.Coin
open Go.ChangeShapes Go.WideShapes Go.ChangeAt Go.RowKit
theorem not_u8 (x : Nat) (h : x < 256) : bits .xor .u8 IntKind.u8.max (x : Int) = ((255 - x : Nat) : Int) := by
  have e : IntKind.u8.max = ((255 : Nat) : Int) := by rfl
  rw [e, u8_xor_nat 255 x (by decide) h]
  congr 1
  exact (by decide +kernel : ∀ x : Fin 256, 255 ^^^ x.val = 255 - x.val) ⟨x, h⟩
theorem clear_u8 (x : Nat) (h : x < 256) : bits .andNot .u8 (x : Int) (ones (lead x - 1) : Nat) = ((x - ones (lead x - 1) : Nat) : Int) := by
  rw [u8_andNot_nat x _ h (by unfold ones; have := Nat.two_pow_pos (8 - (lead x - 1)); omega)]
  congr 1
  exact (by decide +kernel : ∀ x : Fin 256, x.val &&& (255 - ones (lead x.val - 1)) = x.val - ones (lead x.val - 1)) ⟨x, h⟩
theorem shl_or (x b : Nat) (h : x * 256 + b < 18446744073709551616) (hb : b < 256) : bits .or .u64 (IntKind.u64.wrap ((x : Int) * 256)) (b : Int) = ((x * 256 + b : Nat) : Int) := by
  have h1 : x * 256 < 18446744073709551616 := Nat.lt_of_le_of_lt (Nat.le_add_right _ _) h
  have h2 : b < 18446744073709551616 := by omega
  have h3 : x * 256 ||| b = x * 256 + b := nat_join 8 (x * 256) b (by omega) (by omega)
  have e : IntKind.u64.wrap ((x : Int) * 256) = ((x * 256 : Nat) : Int) := by rw [wrap_u64]; omega
  rw [e, u64_or_nat _ _ h1 h2, h3]
theorem num_grow (a : Nat) (l r : List UInt8) : num a l ≤ num a (l ++ r) := by
  induction r generalizing l with
  | nil => simp
  | cons b r ih =>
    have := ih (l ++ [b])
    rw [num_snoc, List.append_assoc] at this
    simp only [List.cons_append, List.nil_append] at this
    omega
theorem num_next (a : Nat) (r : List UInt8) (i j : Nat) (hi : i < j) (hr : j ≤ r.length) : num a (r.take i) * 256 + (r[i]'(by omega)).toNat = num a (r.take (i + 1)) ∧ num a (r.take (i + 1)) ≤ num a (r.take j) := by
  constructor
  · rw [List.take_succ_eq_append_getElem (by omega), num_snoc]
  · have e : r.take j = r.take (i + 1) ++ (r.drop (i + 1)).take (j - (i + 1)) := by
      rw [← List.take_add]; congr 1; omega
    rw [e]; exact num_grow _ _ _
theorem get_any (A : Option Addr) (cap B : Nat) (l : List UInt8) (w : World) (hl : l.length ≤ 1300000) (hr : Rd w B A l) :
    Calls Tryz.prog 118 #[.slice A l.length cap] w fun e w' => e = .returned (.tuple #[.int .u64 (got l).1, .int .i64 (got l).2.1, .int .i64 (got l).2.2]) ∧ ∃ m, w' = w.drewN m := by
  rcases l with _ | ⟨b, r⟩
  · go_enter Tryz.func118, Tryz.ntmps118
    go_wp2
    refine bodyPost_ret (results_tmp3 rfl _ _ _) rfl ?_
    exact ⟨rfl, 0, rfl⟩
  · obtain ⟨ad, rfl, _, hc⟩ := hr (by simp)
    obtain ⟨m, hm⟩ : ∃ m, m = (b :: r).length := ⟨_, rfl⟩
    have h0 : w.cell? ad = some (.int .u8 (b.toNat : Int)) := hc 0 (by simp)
    have hb : b.toNat < 256 := b.toNat_lt
    have hk := lead_le b.toNat
    have clz := fun W => lz8_any b.toNat hb W
    rw [← not_u8 _ hb] at clz
    have con := fun W => (ones_any (lead b.toNat - 1) (by omega) W).mono fun _ _ h => And.intro h.1 h.2.symm
    have hm9 : m ≤ 1300000 := by omega
    obtain ⟨j, hj⟩ : ∃ j, lead b.toNat = j + 1 := ⟨lead b.toNat - 1, by omega⟩
    rw [← hm]
    by_cases h : r.length + 1 < lead b.toNat
    · simp only [got, if_pos h]
      rw [hj] at clz hk h
      have h' : m < j + 1 := by simp at hm; omega
      have h1 : 1 ≤ m := by simp at hm; omega
      clear hm con hj
      generalize b.toNat = x at *
      simp only [Nat.add_sub_cancel] at clz
      clear hl hc hr
      go_enter Tryz.func118, Tryz.ntmps118
      go_wp2_with (go_at_call 137; refine (clz _).mono ?_; rintro e w' ⟨rfl, rfl⟩)
      refine bodyPost_ret (results_tmp3 rfl _ _ _) rfl ?_
      exact ⟨rfl, 0, rfl⟩
    · have hcl := clear_u8 b.toNat hb
      have hsz := fun i (hi : i < r.length) => hc (i + 1) (by simp; omega)
      simp only [List.getElem_cons_succ] at hsz
      have hvl := val_lt b r (by omega)
      have HG := Lib.hid (show got (b :: r) = if sz (val b r) = lead b.toNat then (val b r, lead b.toNat, 0) else (0, 0, 4) by simp only [got, if_neg h])
      have hx : num (b.toNat - ones (lead b.toNat - 1)) (r.take 0) = b.toNat - ones (lead b.toNat - 1) := by simp [num]
      have HV := Lib.hid (show val b r = num (b.toNat - ones (lead b.toNat - 1)) (r.take (lead b.toNat - 1)) by rfl)
      generalize got (b :: r) = G at *
      have hlen : m = r.length + 1 := by simp at hm; omega
      clear hm hl hr hc
      rw [hj] at clz hk h con hcl HG HV hx
      simp only [Nat.add_sub_cancel] at clz con hcl HV hx
      have h' : j + 1 ≤ m := by omega
      have hL := Lib.hid hlen
      clear hlen h hj
      have HX := Lib.hid hx
      clear hx
      have HS : Hid (∀ i, (hi : i < r.length) → w.cell? (ad.add (i + 1)) = some (b8 r[i])) := hsz
      clear hsz
      generalize b.toNat = x at *
      generalize ones j = y at *
      have hz : x - y < 256 := by omega
      generalize x - y = z at *
      obtain ⟨V, hVV⟩ : ∃ V, V = val b r := ⟨_, rfl⟩
      rw [← hVV] at hvl HG HV
      clear hVV
      have hzw : IntKind.u64.wrap (z : Int) = z := by rw [wrap_u64]; omega
      have hjw : IntKind.i64.wrap ((j : Int) + 1 - 1) = (j : Int) := by rw [IntKind.wrap_i64]; omega
      go_enter Tryz.func118, Tryz.ntmps118
      go_wp2_with (go_at_call 137; refine (clz _).mono ?_; rintro e w' ⟨rfl, rfl⟩)
      go_quiet ((go_at_call 116; exact Calls.quiet_of_same (con _)))
      go_wp2_with fail
      go_loop [6, 31] (fun t i => ∃ k : Nat, k ≤ j ∧ i = .int .i64 k ∧ t = .int .u64 (num z (r.take k) : Nat)) (fun _ i => j - (intOf i).toNat)
      case atStart => exact ⟨0, by omega, rfl, by rw [HX.out]⟩
      case round =>
        obtain ⟨k, hk2, rfl, rfl⟩ := hrel
        by_cases hlt : k < j
        · obtain ⟨hn1, hn2⟩ := num_next z r k j hlt (by have := hL.out; omega)
          have hn3 : num z (r.take j) < 18446744073709551616 := by rw [← HV.out]; exact hvl
          have hcell : w.cell? (ad.add (1 + k)) = some (.int .u8 ((r[k]'(by have := hL.out; omega)).toNat : Int)) := by rw [Nat.add_comm]; exact HS.out k (by have := hL.out; omega)
          have hb' : (r[k]'(by have := hL.out; omega)).toNat < 256 := UInt8.toNat_lt _
          generalize (r[k]'(by have := hL.out; omega)).toNat = c at *
          have hor := shl_or (num z (r.take k)) c (by omega) hb'
          rw [hn1] at hor
          obtain ⟨v, hv⟩ : ∃ v, v = num z (r.take (k + 1)) := ⟨_, rfl⟩
          rw [← hv] at hor
          have HVV := Lib.hid hv
          clear hv
          generalize num z (r.take k) = u at *
          clear hn1 hn2 hn3
          go_wp2
          go_round
          case rel => exact ⟨k + 1, by omega, by go_num, by rw [← HVV.out]⟩
          case measure => simp [intOf]; omega
        · obtain rfl : k = j := by omega
          rw [← HV.out]
          have c13 := fun W => size_any V hvl W
          by_cases hs : sz V = k + 1
          · have hG : G = (V, k + 1, 0) := by rw [HG.out, if_pos hs]
            subst hG
            go_wp2_with (go_at_call 88; refine (c13 _).mono ?_; rintro e w' ⟨rfl, rfl⟩)
            refine bodyPost_ret (results_tmp3 rfl _ _ _) rfl ?_
            exact ⟨rfl, nq, rfl⟩
          · have hG : G = (0, 0, 4) := by rw [HG.out, if_neg hs]
            subst hG
            go_wp2_with (go_at_call 88; refine (c13 _).mono ?_; rintro e w' ⟨rfl, rfl⟩)
            refine bodyPost_ret (results_tmp3 rfl _ _ _) rfl ?_
            exact ⟨rfl, nq, rfl⟩
end Go.Proofs.YtdbhgkbmbbjpdaaGreatDoor.Coin
namespace Go.Proofs.YtdbhgkbmbbjpdaaGreatDoor.Coin
open Go.ChangeShapes Go.WideShapes Go.ChangeAt Go.RowKit
def Pur (w : World) (q : Nat) (l : List UInt8) (f : Nat) : Prop :=
  ∃ g off cap, w.heap[q]? = some (.cells #[.slice (some ⟨g, off, none⟩) l.length cap, .int .i64 (f : Nat)] 157 (0, 0)) ∧ l.length ≤ cap ∧ cap ≤ 1000000 ∧ g < q ∧ ∀ j (hj : j < l.length), w.cell? ⟨g, off + j, none⟩ = some (b8 l[j])
theorem fault_any (w : World) (q : Nat) (l : List UInt8) (f : Nat) (h : Pur w q l f) :
    Calls Tryz.prog 119 #[.pointer (some ⟨q, 0, none⟩)] w fun e w' => e = .returned (.int .i64 (f : Nat)) ∧ w = w' := by
  obtain ⟨g, off, cap, hq, _, _, _, _⟩ := h
  have h0 : w.cell? ⟨q, 0, none⟩ = some (.slice (some ⟨g, off, none⟩) l.length cap) := by rw [cell_of_row w q 0 _ 157 (0, 0) hq]; rfl
  have h1 : w.cell? ⟨q, 1, none⟩ = some (.int .i64 (f : Nat)) := by rw [cell_of_row w q 1 _ 157 (0, 0) hq]; rfl
  clear hq
  go_enter Tryz.func119, Tryz.ntmps119
  go_wp2
  go_ret
  exact ⟨rfl, rfl⟩
theorem left_any (w : World) (q : Nat) (l : List UInt8) (f : Nat) (h : Pur w q l f) :
    Calls Tryz.prog 120 #[.pointer (some ⟨q, 0, none⟩)] w fun e w' => e = .returned (.int .i64 (l.length : Nat)) ∧ w = w' := by
  obtain ⟨g, off, cap, hq, _, _, _, _⟩ := h
  have h0 : w.cell? ⟨q, 0, none⟩ = some (.slice (some ⟨g, off, none⟩) l.length cap) := by rw [cell_of_row w q 0 _ 157 (0, 0) hq]; rfl
  have h1 : w.cell? ⟨q, 1, none⟩ = some (.int .i64 (f : Nat)) := by rw [cell_of_row w q 1 _ 157 (0, 0) hq]; rfl
  clear hq
  go_enter Tryz.func120, Tryz.ntmps120
  go_wp2
  go_ret
  exact ⟨rfl, rfl⟩
def endV (l : List UInt8) (f : Nat) : Nat := if f = 0 ∧ 0 < l.length then 4 else f
theorem end_any (w : World) (q : Nat) (l : List UInt8) (f : Nat) (h : Pur w q l f) :
    Calls Tryz.prog 98 #[.pointer (some ⟨q, 0, none⟩)] w fun e w' => e = .returned (.int .i64 (endV l f : Nat)) ∧ w = w' := by
  have c20 := fault_any w q l f h
  have c21 := left_any w q l f h
  by_cases hf : f = 0
  · subst hf
    by_cases hl : 0 < l.length
    · rw [show endV l 0 = 4 by simp [endV, hl]]
      generalize l.length = m at *
      go_enter Tryz.func98, Tryz.ntmps98
      go_wp2_with (first | (go_at_call 119; refine c20.mono ?_; rintro e w' ⟨rfl, rfl⟩) | (go_at_call 120; refine c21.mono ?_; rintro e w' ⟨rfl, rfl⟩))
      go_ret
      exact ⟨rfl, rfl⟩
    · rw [show endV l 0 = 0 by simp [endV, hl]]
      generalize l.length = m at *
      go_enter Tryz.func98, Tryz.ntmps98
      go_wp2_with (first | (go_at_call 119; refine c20.mono ?_; rintro e w' ⟨rfl, rfl⟩) | (go_at_call 120; refine c21.mono ?_; rintro e w' ⟨rfl, rfl⟩))
      go_ret
      exact ⟨rfl, rfl⟩
  · rw [show endV l f = f by simp [endV, hf]]
    have hb : (((f : Nat) : Int) == 0) = false := by simp; omega
    go_enter Tryz.func98, Tryz.ntmps98
    go_wp2_with (first | (go_at_call 119; refine c20.mono ?_; rintro e w' ⟨rfl, rfl⟩) | (go_at_call 120; refine c21.mono ?_; rintro e w' ⟨rfl, rfl⟩))
    go_ret
    exact ⟨rfl, rfl⟩
theorem fault_nil (w : World) : Calls Tryz.prog 119 #[.pointer none] w fun e w' => e = .returned (.int .i64 2) ∧ w = w' := by
  go_enter Tryz.func119, Tryz.ntmps119
  go_wp2
  go_ret
  exact ⟨rfl, rfl⟩
theorem take_nil (n : Int) (w : World) : Calls Tryz.prog 97 #[.pointer none, .int .u64 n] w fun e w' => e = .returned (.int .u64 0) ∧ w = w' := by
  go_enter Tryz.func97, Tryz.ntmps97
  go_wp2_with (first | (go_at_call 119; refine (fault_nil _).mono ?_; rintro e w' ⟨rfl, rfl⟩))
  go_ret
  exact ⟨rfl, rfl⟩
def takeV (l : List UInt8) (f most : Nat) : Nat × List UInt8 × Nat :=
  if f ≠ 0 then (0, l, f) else if (got l).2.2 ≠ 0 then (0, l, (got l).2.2) else if most < (got l).1 then (0, l, 6) else ((got l).1, l.drop (got l).2.1, 0)
theorem Pur.far {w w' : World} {q : Nat} {l : List UInt8} {f : Nat} (h : Pur w q l f) (hb : ∀ i, i ≤ q → w'.heap[i]? = w.heap[i]?) : Pur w' q l f := by
  obtain ⟨g, off, cap, hq, h1, h2, h3, h4⟩ := h
  exact ⟨g, off, cap, (hb q (Nat.le_refl _)).trans hq, h1, h2, h3, fun j hj => (World.cell?_of_block (a := ⟨g, off + j, none⟩) (hb g (by omega))).trans (h4 j hj)⟩
theorem grown_trans {a b c : World} {q : Nat} (h : a.grownBy b (some q)) (k : b.grownBy c (some q)) : a.grownBy c (some q) :=
  ⟨k.os.trans h.os, k.tape.trans h.tape, k.output.trans h.output, Nat.le_trans h.size k.size, fun i hi hne => (k.block i (Nat.lt_of_lt_of_le hi h.size) hne).trans (h.block i hi hne)⟩
theorem grown_drewN (w : World) (n : Nat) (r : Option Nat) : w.grownBy (w.drewN n) r := ⟨rfl, rfl, rfl, Nat.le_refl _, fun _ _ _ => rfl⟩
theorem grown_set (w : World) (q i : Nat) (v : Value) : w.grownBy (w.setCell ⟨q, i, none⟩ v) (some q) :=
  ⟨rfl, rfl, rfl, by simp [World.setCell], fun k _ hne => heap_setCell_other w ⟨q, i, none⟩ k v (fun e => hne (by rw [e]))⟩
theorem Pur.fault {w : World} {q : Nat} {l : List UInt8} {f : Nat} (h : Pur w q l f) (f' : Nat) : Pur (w.setCell ⟨q, 1, none⟩ (.int .i64 (f' : Nat))) q l f' := by
  obtain ⟨g, off, cap, hq, h1, h2, h3, h4⟩ := h
  refine ⟨g, off, cap, ?_, h1, h2, h3, fun j hj => ?_⟩
  · rw [heap_setCell_same w q 1 _ 157 _ hq]; rfl
  · rw [World.cell?_of_block (heap_setCell_other w ⟨q, 1, none⟩ g _ (by simp; omega))]; exact h4 j hj
theorem pur_rest {w : World} {q g off cap f k : Nat} {l : List UInt8} (hq : w.heap[q]? = some (.cells #[.slice (some ⟨g, off, none⟩) l.length cap, .int .i64 (f : Nat)] 157 (0, 0))) (h1 : l.length ≤ cap) (h2 : cap ≤ 1000000) (h3 : g < q)
    (h4 : ∀ j (hj : j < l.length), w.cell? ⟨g, off + j, none⟩ = some (b8 l[j])) (hk : k ≤ l.length) (A : Option Addr) (hA : (cap = k → A = some ⟨g, off, none⟩) ∧ (cap ≠ k → A = some ⟨g, off + k, none⟩)) :
    Pur (w.setCell ⟨q, 0, none⟩ (.slice A (l.length - k) (cap - k))) q (l.drop k) f := by
  have hc : ∀ j, (w.setCell ⟨q, 0, none⟩ (.slice A (l.length - k) (cap - k))).cell? ⟨g, j, none⟩ = w.cell? ⟨g, j, none⟩ := fun j => World.cell?_of_block (heap_setCell_other w ⟨q, 0, none⟩ g _ (by simp; omega))
  by_cases e : cap = k
  · refine ⟨g, off, cap - k, ?_, by simp; omega, by omega, h3, fun j hj => ?_⟩
    · rw [heap_setCell_same w q 0 _ 157 _ hq, hA.1 e]; simp
    · simp at hj; omega
  · refine ⟨g, off + k, cap - k, ?_, by simp; omega, by omega, h3, fun j hj => ?_⟩
    · rw [heap_setCell_same w q 0 _ 157 _ hq, hA.2 e]; simp
    · rw [hc, Nat.add_assoc, h4 (k + j) (by simp at hj; omega)]; simp
theorem take_any (w : World) (q : Nat) (l : List UInt8) (f most : Nat) (h : Pur w q l f) (hf : f ≤ 12) (_hmost : most < 18446744073709551616) :
    Calls Tryz.prog 97 #[.pointer (some ⟨q, 0, none⟩), .int .u64 most] w fun e w' => e = .returned (.int .u64 ((takeV l f most).1 : Nat)) ∧ Pur w' q (takeV l f most).2.1 (takeV l f most).2.2 ∧ w.grownBy w' (some q) := by
  have c20 := fault_any w q l f h
  by_cases hf0 : f = 0
  · subst hf0
    obtain ⟨g, off, cap, hq, h1, h2, h3, h4⟩ := id h
    have g1 := got_lt l
    have c11 := fun W (hW : ∀ i, i ≤ q → W.heap[i]? = w.heap[i]?) => get_any (some ⟨g, off, none⟩) cap q l W (by omega) (fun h0 => ⟨_, rfl, h3, fun j hj => by
      rw [World.cell?_of_block (w := w) (a := (⟨g, off, none⟩ : Addr).add j) (by rw [block_add]; exact hW g (by omega))]
      have := h4 j hj
      unfold Addr.add; split
      · rename_i e; subst e; exact this
      · exact this⟩)
    have h0 : w.cell? ⟨q, 0, none⟩ = some (.slice (some ⟨g, off, none⟩) l.length cap) := by rw [cell_of_row w q 0 _ 157 (0, 0) hq]; rfl
    have h5 : w.cell? ⟨q, 1, none⟩ = some (.int .i64 0) := by rw [cell_of_row w q 1 _ 157 (0, 0) hq]; rfl
    have hf0' : w.frozen? ⟨q, 0, none⟩ = false := frozen_of_row w q 0 _ 157 hq
    have hf1' : w.frozen? ⟨q, 1, none⟩ = false := frozen_of_row w q 1 _ 157 hq
    have hz := c11 w (fun _ _ => rfl)
    clear c11
    generalize hG : got l = G at *
    obtain ⟨n, k, e⟩ := G
    have HTV := Lib.hid (show takeV l 0 most = if e ≠ 0 then (0, l, e) else if most < n then (0, l, 6) else (n, l.drop k, 0) by simp [takeV, hG])
    generalize takeV l 0 most = T at *
    clear hG
    obtain ⟨m, hm⟩ : ∃ m, m = l.length := ⟨_, rfl⟩
    rw [← hm] at hz h0
    have HM := Lib.hid hm
    clear hm
    have HQ := Lib.hid hq
    have H4 : Hid (∀ j (hj : j < l.length), w.cell? ⟨g, off + j, none⟩ = some (b8 l[j])) := h4
    clear hq h4
    simp only at hz g1
    by_cases he : e = 0
    · subst he
      by_cases hlt : most < n
      · have hT : T = (0, l, 6) := by rw [HTV.out]; simp [hlt]
        subst hT
        go_enter Tryz.func97, Tryz.ntmps97
        go_wp2_with (first | (go_at_call 119; refine c20.mono ?_; rintro e w' ⟨rfl, rfl⟩))
        refine hz.mono ?_
        rintro e' w1 ⟨rfl, nq, hw1⟩
        have B1 : w.grownBy w1 (some q) := by rw [hw1]; exact grown_drewN w nq _
        have h5 : w1.cell? ⟨q, 1, none⟩ = some (.int .i64 0) := by rw [hw1]; exact h5
        have hf1' : w1.frozen? ⟨q, 1, none⟩ = false := by rw [hw1]; exact hf1'
        have P1 : Pur w1 q l 0 := by rw [hw1]; exact h
        have R := P1.fault 6
        have B2 := grown_trans B1 (grown_set w1 q 1 (.int .i64 (6 : Nat)))
        clear hw1 hz hf0' P1
        go_wp2
        go_ret
        exact ⟨rfl, R, B2⟩
      · have hT : T = (n, l.drop k, 0) := by rw [HTV.out]; simp [hlt]
        subst hT
        go_enter Tryz.func97, Tryz.ntmps97
        go_wp2_with (first | (go_at_call 119; refine c20.mono ?_; rintro e w' ⟨rfl, rfl⟩))
        refine hz.mono ?_
        rintro e w1 ⟨rfl, nq, hw1⟩
        have B1 : w.grownBy w1 (some q) := by rw [hw1]; exact grown_drewN w nq _
        have h0 : w1.cell? ⟨q, 0, none⟩ = some (.slice (some ⟨g, off, none⟩) m cap) := by rw [hw1]; exact h0
        have hf0' : w1.frozen? ⟨q, 0, none⟩ = false := by rw [hw1]; exact hf0'
        have HQ : Hid (w1.heap[q]? = some (.cells #[.slice (some ⟨g, off, none⟩) l.length cap, .int .i64 (0 : Nat)] 157 (0, 0))) := by rw [hw1]; exact HQ
        have H4 : Hid (∀ j (hj : j < l.length), w1.cell? ⟨g, off + j, none⟩ = some (b8 l[j])) := by rw [hw1]; exact H4
        clear hw1 hz h5 hf1'
        have hkm : k ≤ m := by rw [HM.out]; exact g1.2.2.1
        have hmc : m ≤ cap := by rw [HM.out]; exact h1
        by_cases e : cap = k
        · have R := pur_rest (k := k) HQ.out h1 h2 h3 H4.out g1.2.2.1 (some ⟨g, off, none⟩) ⟨fun _ => rfl, fun h => absurd e h⟩
          have B2 := grown_trans B1 (grown_set w1 q 0 (.slice (some ⟨g, off, none⟩) (l.length - k) (cap - k)))
          rw [← HM.out, e, Nat.sub_self] at R B2
          go_wp2
          go_ret
          exact ⟨rfl, R, B2⟩
        · have R := pur_rest (k := k) HQ.out h1 h2 h3 H4.out g1.2.2.1 (some ⟨g, off + k, none⟩) ⟨fun h => absurd h e, fun _ => rfl⟩
          have B2 := grown_trans B1 (grown_set w1 q 0 (.slice (some ⟨g, off + k, none⟩) (l.length - k) (cap - k)))
          rw [← HM.out] at R B2
          go_wp2
          go_ret
          exact ⟨rfl, R, B2⟩
    · have hT : T = (0, l, e) := by rw [HTV.out]; simp [he]
      subst hT
      have hbe : (((e : Nat) : Int) == 0) = false := by simp; omega
      have hbn : (((e : Nat) : Int) != 0) = true := by simp; omega
      go_enter Tryz.func97, Tryz.ntmps97
      go_wp2_with (first | (go_at_call 119; refine c20.mono ?_; rintro e w' ⟨rfl, rfl⟩))
      refine hz.mono ?_
      rintro e' w1 ⟨rfl, nq, hw1⟩
      have B1 : w.grownBy w1 (some q) := by rw [hw1]; exact grown_drewN w nq _
      have h5 : w1.cell? ⟨q, 1, none⟩ = some (.int .i64 0) := by rw [hw1]; exact h5
      have hf1' : w1.frozen? ⟨q, 1, none⟩ = false := by rw [hw1]; exact hf1'
      have P1 : Pur w1 q l 0 := by rw [hw1]; exact h
      have R := P1.fault e
      have B2 := grown_trans B1 (grown_set w1 q 1 (.int .i64 (e : Nat)))
      clear hw1 hz hf0' P1
      go_wp2
      go_ret
      exact ⟨rfl, R, B2⟩
  · have hT : takeV l f most = (0, l, f) := by simp [takeV, hf0]
    rw [hT]
    have hb : (((f : Nat) : Int) != 0) = true := by simp; omega
    go_enter Tryz.func97, Tryz.ntmps97
    go_wp2_with (first | (go_at_call 119; refine c20.mono ?_; rintro e w' ⟨rfl, rfl⟩))
    go_ret
    exact ⟨rfl, h, grown_drewN w 0 _⟩
end Go.Proofs.YtdbhgkbmbbjpdaaGreatDoor.Coin
namespace Go.Proofs.YtdbhgkbmbbjpdaaGreatDoor.Coin
open Go.ChangeShapes Go.WideShapes Go.ChangeAt Go.RowKit
def NewSaid (w : World) (l : List UInt8) (e : Ending) (w' : World) : Prop := ∃ q, e = .returned (.pointer (some ⟨q, 0, none⟩)) ∧ Pur w' q l 0 ∧ w.heap.size ≤ q ∧ q < w'.heap.size ∧ Below w.heap.size w w'
theorem new_any (A : Option Addr) (cap : Nat) (l : List UInt8) (w : World) (hl : l.length ≤ 900000) (hr : Rd w w.heap.size A l) :
    Calls Tryz.prog 96 #[.slice A l.length cap] w (NewSaid w l) := by
  obtain ⟨m, hm⟩ : ∃ m, m = l.length := ⟨_, rfl⟩
  have hmk := make_any m (by omega) w
  have R0 := Row.new w m
  have B1 : Below w.heap.size w (w.alloc (.cells (madeCells #[.int .u8 0] m) 5)) := (Below.refl _ _).alloc (Nat.le_refl _) _
  have R1 : Rd (w.alloc (.cells (madeCells #[.int .u8 0] m) 5)) w.heap.size A l := hr.below B1 (Nat.le_refl _)
  obtain ⟨w1, hw1⟩ : ∃ w1, w1 = w.alloc (.cells (madeCells #[.int .u8 0] m) 5) := ⟨_, rfl⟩
  rw [← hw1] at R0 R1 B1 hmk
  rw [← hm]
  have HM := Lib.hid hm
  clear hm hw1
  go_enter Tryz.func96, Tryz.ntmps96
  go_wp2_with (first | (with_reducible refine copy_row rfl (.tmp 7) (.tmp 8) rfl w.heap.size m m cap A rfl rfl l ?c1 _ R1 R0 w.heap.size w B1 (Nat.le_refl _) ?_))
  case c1 => rw [← HM.out]; exact (Nat.min_self _).symm
  intro w2 R2 B2
  clear R0 B1 R1 hmk
  rw [← HM.out, Nat.sub_self, List.replicate_zero, List.append_nil] at R2
  rw [← HM.out]
  go_wp2
  go_ret
  have hg := R2.lt
  have B3 := B2.alloc (by have := B2.size; omega) (.cells #[.slice (some ⟨w.heap.size, 0, none⟩) m m, .int .i64 0] 157)
  refine ⟨w2.heap.size, rfl, ⟨w.heap.size, 0, m, ?_, by have := HM.out; omega, by have := HM.out; omega, hg, fun j hj => ?_⟩, by have := B2.size; omega, by simp, B3⟩
  · rw [heap_alloc_new, HM.out]; rfl
  · rw [World.cell?_of_block (w := w2) (a := ⟨w.heap.size, 0 + j, none⟩) (Below.heap_alloc w2 _ w.heap.size hg), Nat.zero_add, R2.cell j hj]
end Go.Proofs.YtdbhgkbmbbjpdaaGreatDoor.Coin
namespace Go.Proofs.YtdbhgkbmbbjpdaaGreatDoor.Coin
open Go.ChangeShapes Go.WideShapes Go.ChangeAt Go.RowKit
set_option maxRecDepth 4000
def Own (w : World) (B : Nat) (v : Value) (l : List UInt8) : Prop := w.ownsRow B 5 1 v l.length (l.map b8)
theorem Own.nil (w : World) (B : Nat) : Own w B (.slice none 0 0) [] := World.ownsRow_nil w B 5 1
theorem Own.lt {w : World} {B : Nat} {v : Value} {l : List UInt8} (h : Own w B v l) : ∀ k, v.ownBlock = some k → B ≤ k ∧ k < w.heap.size := World.ownsRow.lt h
theorem Own.form {w : World} {B : Nat} {v : Value} {l : List UInt8} (h : Own w B v l) : ∃ A c, v = .slice A l.length c ∧ Rd w w.heap.size A l ∧ l.length ≤ c ∧ (A = none → c = 0) := by
  have hh := h
  obtain ⟨_, ⟨rfl, h0⟩ | ⟨g, cap, cur, rfl, _, hg, hle, _, _, _⟩⟩ := h
  · rw [List.eq_nil_of_length_eq_zero h0]
    exact ⟨none, 0, rfl, Rd.nil _ _ _, Nat.le_refl _, fun _ => rfl⟩
  · refine ⟨_, cap, rfl, fun h0 => ⟨_, rfl, ?_, fun j hj => ?_⟩, hle, fun h => by cases h⟩
    · rcases Nat.lt_or_ge g w.heap.size with h | h
      · exact h
      · rw [Array.getElem?_eq_none h] at hg; cases hg
    · rw [zero_add', World.ownsRow.cellAt hh j (by omega)]; simp [hj]
theorem Own.kept {w w' : World} {B : Nat} {v : Value} {l : List UInt8} (h : Own w B v l) (hb : Below w.heap.size w w') : Own w' B v l :=
  World.ownsRow.kept (row := none) h ⟨hb.os, hb.tape, hb.output, hb.size, fun k hk _ => hb.block k hk⟩ (by cases v.ownBlock <;> simp)
theorem Own.lit (w : World) (B : Nat) (l : List UInt8) (hB : B ≤ w.heap.size) (hl : l.length ≤ 1300000) : Own (w.alloc (.cells (l.map b8).toArray 5)) B (.slice (some ⟨w.heap.size, 0, none⟩) l.length l.length) l := by
  have := World.ownsRow_lit (e := 5) (size := 1) w (l.map b8).toArray l.length hB (by unfold maxLen; omega) (by simp)
  simpa [Own] using this
theorem Row.lit (w : World) (l : List UInt8) : Row (w.alloc (.cells (l.map b8).toArray 5)) w.heap.size l := heap_alloc_new w _
theorem app_any {w : World} {ops : Array Oper} {rest : List Oper} {o : Oper} {a : Act} {Q : Exit → Act → World → Prop} (hgd : o.guard = none) (s x : Operand)
    (ho : o.op = .call { callee := .builtin .append, args := #[s, x], argTypes := #[30, 30] }) (B : Nat) (v : Value) (l r : List UInt8) (A : Option Addr) (m c Bx : Nat)
    (hs : a.eval s = v) (hx : a.eval x = .slice A m c) (hown : Own w B v l) (hr : Rd w Bx A r) (hm : m = r.length) (hA : A = none → c = 0) (hlen : l.length + r.length ≤ 1300000) (hB : B ≤ w.heap.size) (B0 : Nat) (w0 : World) (hb : Below B0 w0 w) (hB0 : B0 ≤ B)
    (h : ∀ v' w', Own w' B v' (l ++ r) → Below B0 w0 w' → w.grownBy w' v.ownBlock → wpList Tryz.prog ops Q rest (a.put o.dst v') w') : wpList Tryz.prog ops Q (o :: rest) a w := by
  obtain ⟨i0, hi, hz0, hz1, hz2⟩ := info_parts info5
  subst hm
  rcases A with _ | ad
  · have h0 : r = [] := by
      rcases r with _ | ⟨b, r⟩
      · rfl
      · obtain ⟨ad, h, _⟩ := hr (by simp); cases h
    subst h0
    obtain rfl := hA rfl
    exact wpList_append_own_none hgd s x 30 ho B 5 i0 1 Tryz.underlying30 hi v l.length (l.map b8) hs hown hx (h v w (by simpa using hown) hb (World.grownBy.refl w _))
  · have hc : ∀ j u, (r.map b8)[j]? = some u → w.cell? (ad.add j) = some u := by
      intro j u hj
      by_cases h0 : 0 < r.length
      · obtain ⟨ad', e, h⟩ := hr.src h0
        injection e with e
        subst e
        exact h j u hj
      · obtain rfl : r = [] := List.eq_nil_of_length_eq_zero (by omega)
        simp at hj
    refine wpList_append_own w hgd s x 30 ho B 5 i0 (.int .u8 0) 1 1 Tryz.underlying30 hi hz0 hz1 hz2 rfl (by decide) v l.length (l.map b8) hs hown ad r.length c (r.map b8) hx (by simp) hc (one_b8 r) (by unfold maxLen; omega) (by omega) hB ?_
    intro v' w' h1 h2 _
    refine h v' w' ?_ (hb.grown h2 (Nat.le_trans hB0 hB) fun k hk => Nat.le_trans hB0 (hown.lt k hk).1) h2
    simpa [Own] using h1
end Go.Proofs.YtdbhgkbmbbjpdaaGreatDoor.Coin
namespace Go.Proofs.YtdbhgkbmbbjpdaaGreatDoor.Coin
open Go.ChangeShapes Go.WideShapes Go.ChangeAt Go.RowKit
set_option maxRecDepth 4000
def CoinSaid (w : World) (l : List UInt8) (e : Ending) (w' : World) : Prop := ∃ A c, e = .returned (.slice A l.length c) ∧ Rd w' w'.heap.size A l ∧ l.length ≤ c ∧ Below w.heap.size w w'
def CoinOwn (w : World) (l : List UInt8) (e : Ending) (w' : World) : Prop := ∃ v, e = .returned v ∧ Own w' w.heap.size v l ∧ Below w.heap.size w w'
theorem Row.own {w : World} {g B : Nat} {l : List UInt8} (h : Row w g l) (hB : B ≤ g) (hl : l.length ≤ 1300000) : Own w B (.slice (some ⟨g, 0, none⟩) l.length l.length) l :=
  ⟨by simp, .inr ⟨g, l.length, _, rfl, hB, h, Nat.le_refl _, by unfold maxLen; omega, by simp, by rw [Nat.mul_one, List.take_of_length_le (by simp)]⟩⟩
theorem be_get (m n c : Nat) (h : c < m) : (be m n).take (c + 1) = (be m n).take c ++ [UInt8.ofNat (n / 256 ^ (m - 1 - c))] := by
  rw [List.take_succ_eq_append_getElem (by rw [length_be]; exact h)]
  congr 2
  induction m generalizing c with
  | zero => omega
  | succ m ih =>
    rcases c with _ | c
    · simp [be]
    · simp only [be, List.getElem_cons_succ]
      rw [ih c (by omega)]
      congr 3; omega
theorem new_byte (w : World) (n k : Nat) : Row (w.alloc (.cells #[.int .u8 ((n : Int) / 2 ^ k % 256)] 5)) w.heap.size [UInt8.ofNat (n / 2 ^ k)] := by
  have h := Row.lit w [UInt8.ofNat (n / 2 ^ k)]
  have e : ([UInt8.ofNat (n / 2 ^ k)].map b8).toArray = #[.int .u8 ((n : Int) / 2 ^ k % 256)] := by
    simp only [List.map_cons, List.map_nil, b8_ofNat]; simp
  rwa [e] at h
theorem ones_step (i : Nat) (h1 : 1 ≤ i) (h8 : i ≤ 8) : ones (i - 1) + 2 ^ (8 - i) = ones i ∧ 2 ^ (8 - i) < 256 := by
  have h := (by decide +kernel : ∀ i : Fin 9, 1 ≤ i.val → ones (i.val - 1) + 2 ^ (8 - i.val) = ones i.val ∧ 2 ^ (8 - i.val) < 256) ⟨i, by omega⟩ h1
  exact h
theorem half_step (i : Nat) (h8 : i < 8) : 2 ^ (8 - i) / 2 = 2 ^ (8 - (i + 1)) := by
  have h := (by decide +kernel : ∀ i : Fin 8, 2 ^ (8 - i.val) / 2 = 2 ^ (8 - (i.val + 1))) ⟨i, by omega⟩
  exact h
theorem coin9 (n : Nat) (hn : n < 18446744073709551616) (h : sz n = 9) : coin n = 255 :: be 8 n := by
  have h0 : n / 256 ^ 8 = 0 := by
    simp only [Nat.reducePow]; omega
  unfold coin
  rw [h]
  simp only [Nat.reduceSub, h0]
  rfl
theorem rcoin_own (n : Nat) (hn : n < 18446744073709551616) (w : World) : Calls Tryz.prog 56 #[.int .u64 n] w (CoinOwn w (coin n)) := by
  have hs := sz_le n
  have hsl := sz_len n hn
  have c25 := fun W => bits_any n hn W
  have hl := len_le n hn
  have hco : (coin n).length = sz n := length_coin n
  have hc9 := coin9 n hn
  obtain ⟨q, hq⟩ : ∃ q, q = sz n := ⟨_, rfl⟩
  rw [← hq] at hs hsl hco hc9
  have HQ := Lib.hid hq
  have HC := Lib.hid hco
  have H9 : Hid (q = 9 → coin n = 255 :: be 8 n) := hc9
  clear hq hco hc9
  generalize Lib.bitLen n = L at *
  have HSL := Lib.hid hsl
  clear hsl
  go_enter Tryz.func56, Tryz.ntmps56
  go_wp2
  go_loop [3] (fun t => ∃ k : Nat, 1 ≤ k ∧ k ≤ q ∧ t = .int .i64 k) (fun t => q - (intOf t).toNat)
  case atStart => exact ⟨1, by omega, by omega, rfl⟩
  case round =>
    obtain ⟨k, hk1, hk2, rfl⟩ := hrel
    by_cases hlt : k < q
    · have h1 : 7 * (k : Int) < L := by have := HSL.out; omega
      have h2 : (k : Int) < 9 := by omega
      go_wp2_with (go_at_call 86; refine (c25 _).mono ?_; rintro e w' ⟨rfl, rfl⟩)
      go_round
      case rel => exact ⟨k + 1, by omega, by omega, by go_num⟩
      case measure => simp [intOf]; omega
    · obtain rfl : k = q := by omega
      by_cases h9 : k = 9
      · subst h9
        have hc := H9.out rfl
        have O0 : Own (w.alloc (.cells #[.int .u8 255] 5)) w.heap.size (.slice (some ⟨w.heap.size, 0, none⟩) 1 1) [255] := Own.lit w w.heap.size [255] (Nat.le_refl _) (by simp)
        have B0 : Below w.heap.size w (w.alloc (.cells #[.int .u8 255] 5)) := (Below.refl _ _).alloc (Nat.le_refl _) _
        have HC9 := Lib.hid hc
        clear hc H9 HC c25
        go_wp2_with fail
        go_loopw [4, 5] (fun v i wr => Own wr w.heap.size v (255 :: (be 8 n).take (7 - intOf i).toNat) ∧ Below w.heap.size w wr ∧ ((∃ j : Nat, j ≤ 7 ∧ i = .int .i64 j) ∨ i = .int .i64 (-1))) (fun _ i _ => (intOf i + 1).toNat)
        case atStart => exact ⟨O0, B0, .inl ⟨7, by omega, rfl⟩⟩
        case round =>
          obtain ⟨O, B, ⟨j, hj, rfl⟩ | rfl⟩ := hrel
          · have R1 := (new_byte wr n (8 * j)).rd
            have B1 : Below w.heap.size w (wr.alloc (.cells #[.int .u8 ((n : Int) / 2 ^ (8 * j) % 256)] 5)) := B.alloc B.size _
            have O1 := O.kept (w' := wr.alloc (.cells #[.int .u8 ((n : Int) / 2 ^ (8 * j) % 256)] 5)) ((Below.refl _ _).alloc (Nat.le_refl _) _)
            have e1 : (be 8 n).take (7 - intOf (Value.int IntKind.i64 j)).toNat = (be 8 n).take (7 - j) := by congr 1; simp [intOf]
            rw [e1] at O1
            have e2 : (be 8 n).take (7 - j) ++ [UInt8.ofNat (n / 2 ^ (8 * j))] = (be 8 n).take (7 - j + 1) := by
              rw [be_get 8 n (7 - j) (by omega)]
              congr 3
              have e3 : 2 ^ (8 * j) = 256 ^ j := by rw [Nat.pow_mul]
              rw [e3]; congr 2; omega
            have hlen : (255 :: (be 8 n).take (7 - j)).length + [UInt8.ofNat (n / 2 ^ (8 * j))].length ≤ 1300000 := by simp [length_be]; omega
            have HE := Lib.hid e2
            have hsz : w.heap.size ≤ (wr.alloc (.cells #[.int .u8 ((n : Int) / 2 ^ (8 * j) % 256)] 5)).heap.size := B1.size
            clear e1 e2 O B
            generalize (be 8 n).take (7 - j) = X at *
            go_wp2_with (first | (at_builtin; with_reducible refine app_any rfl (.tmp 28) (.tmp 34) rfl w.heap.size u4 (255 :: X) [UInt8.ofNat (n / 2 ^ (8 * j))] (some ⟨wr.heap.size, 0, none⟩) 1 1 _ rfl rfl O1 R1 rfl (fun h => by cases h) hlen hsz w.heap.size w B1 (Nat.le_refl _) ?_))
            intro v' w2 O2 B2 _
            rw [HE.out] at O2
            clear O1 R1 B1 HE hlen hsz
            go_wp2
            go_roundw
            case rel =>
              refine ⟨?_, B2, ?_⟩
              · have e : (7 - intOf (Value.int IntKind.i64 ((j : Int) - 1))).toNat = 7 - j + 1 := by simp [intOf]; omega
                rw [e]; exact O2
              · rcases j with _ | j
                · exact .inr rfl
                · exact .inl ⟨j, by omega, by go_num⟩
            case measure => simp [intOf]
          · go_wp2
            go_ret
            have e : List.take (7 - intOf (Value.int IntKind.i64 (-1))).toNat (be 8 n) = be 8 n := List.take_of_length_le (by rw [length_be]; decide)
            rw [e, ← HC9.out] at O
            exact ⟨_, rfl, O, B⟩
      · have h1 : ¬ 7 * (k : Int) < L := by have := HSL.out; omega
        have h2 : (k : Int) < 9 := by omega
        have h3 : ((k : Int) == 9) = false := by simp; omega
        have hmk := make_any k (by omega) w
        go_wp2_with (go_at_call 86; refine (c25 _).mono ?_; rintro e w' ⟨rfl, rfl⟩)
        have R0 := Row.new w k
        have B0 : Below w.heap.size w (w.alloc (.cells (madeCells #[.int .u8 0] k) 5)) := (Below.refl _ _).alloc (Nat.le_refl _) _
        generalize w.alloc (.cells (madeCells #[.int .u8 0] k) 5) = w1 at *
        clear hmk c25 h1 H9
        go_loopw [0, 7] (fun x i wr => Below w.heap.size w wr ∧ ((∃ j : Nat, j < k ∧ i = .int .i64 j ∧ x = .int .u64 (n / 256 ^ (k - 1 - j) : Nat) ∧ Row wr w.heap.size (List.replicate (j + 1) 0 ++ be (k - 1 - j) n)) ∨ (i = .int .i64 (-1) ∧ Row wr w.heap.size (be k n)))) (fun _ i _ => (intOf i + 1).toNat)
        case atStart =>
          refine ⟨B0, .inl ⟨k - 1, by omega, by go_num, ?_, ?_⟩⟩
          · rw [Nat.sub_self, Nat.pow_zero, Nat.div_one]
          · rw [Nat.sub_self, show k - 1 + 1 = k by omega]
            simpa [be] using R0
        case round =>
          obtain ⟨B, ⟨j, hj, rfl, rfl, R⟩ | ⟨rfl, R⟩⟩ := hrel
          · have hx : n / 256 ^ (k - 1 - j) < 18446744073709551616 := Nat.lt_of_le_of_lt (Nat.div_le_self _ _) hn
            have hd := Lib.hid (show n / 256 ^ (k - 1 - j) / 256 = n / 256 ^ (k - 1 - j + 1) by rw [Nat.pow_succ, Nat.div_div_eq_div_mul])
            obtain ⟨q0, hcell⟩ : ∃ q : Int, wr.cell? ⟨w.heap.size, j, none⟩ = some (.int .u8 q) := ⟨_, R.cell j (by simp [length_be]; omega)⟩
            have hfz := R.frozen j
            have R' := R.set j (UInt8.ofNat (n / 256 ^ (k - 1 - j)))
            have hset := set_be [] k (k - 1 - j) n (by omega)
            have e1 : k - (k - 1 - j) = j + 1 := by omega
            have e2 : k - 1 - (k - 1 - j) = j := by omega
            have e3 : k - (k - 1 - j + 1) = j := by omega
            rw [e1, e2, e3] at hset
            simp only [List.nil_append, List.length_nil, Nat.zero_add] at hset
            rw [hset, b8_ofNat] at R'
            have B' := B.setCell (p := ⟨w.heap.size, j, none⟩) (Nat.le_refl _) (.int .u8 ((n / 256 ^ (k - 1 - j) : Nat) % 256))
            clear hset e1 e2 e3 R
            generalize n / 256 ^ (k - 1 - j) = x at *
            go_wp2
            go_roundw
            case rel =>
              refine ⟨B', ?_⟩
              rcases j with _ | j
              · refine .inr ⟨rfl, ?_⟩
                have e : k - 1 - 0 + 1 = k := by omega
                rw [e] at R'
                simpa using R'
              · have e : k - 1 - (j + 1) + 1 = k - 1 - j := by omega
                rw [e] at R' hd
                exact .inl ⟨j, by omega, by go_num, by rw [← hd.out]; simp, R'⟩
            case measure => simp [intOf]
          · obtain ⟨k0, rfl⟩ : ∃ k0, k = k0 + 1 := ⟨k - 1, by omega⟩
            have ht := top_sz n hn
            rw [← HQ.out, Nat.add_sub_cancel] at ht
            have R1 : Row wr w.heap.size (UInt8.ofNat (n / 256 ^ k0 + ones 0) :: be k0 n) := R
            have HCO := Lib.hid (show coin n = UInt8.ofNat (n / 256 ^ k0 + ones k0) :: be k0 n by unfold coin; rw [← HQ.out, Nat.add_sub_cancel])
            have hlt2 : ∀ i, i ≤ k0 → n / 256 ^ k0 + ones i < 256 := by
              intro i hi
              have h := (lead_top (k0 + 1) _ (by omega) (by omega) ht).2
              rw [Nat.add_sub_cancel] at h
              have ho : ones i ≤ ones k0 := by
                unfold ones
                have := Nat.pow_le_pow_right (n := 2) (by decide) (show 8 - k0 ≤ 8 - i by omega)
                omega
              omega
            have HLT : Hid (∀ i, i ≤ k0 → n / 256 ^ k0 + ones i < 256) := hlt2
            clear R hlt2 ht R0 B0
            generalize n / 256 ^ k0 = y at *
            generalize hbe : be k0 n = T at *
            have HBE := Lib.hid hbe
            clear hbe
            go_wp2_with fail
            go_loopw [8, 9] (fun x i wr => Below w.heap.size w wr ∧ ∃ j : Nat, 1 ≤ j ∧ j ≤ k0 + 1 ∧ i = .int .i64 j ∧ x = .int .i64 (2 ^ (8 - j) : Nat) ∧ Row wr w.heap.size (UInt8.ofNat (y + ones (j - 1)) :: T)) (fun _ i _ => (k0 + 2) - (intOf i).toNat)
            case atStart => exact ⟨B, 1, by omega, by omega, rfl, rfl, R1⟩
            case round =>
              clear R1 B
              obtain ⟨B, j, hj1, hj2, rfl, rfl, R⟩ := hrel
              by_cases hlt : j < k0 + 1
              · obtain ⟨hs1, hs2⟩ := ones_step j hj1 (by omega)
                have hh := Lib.hid (half_step j (by omega))
                have hy1 := HLT.out j (by omega)
                have hy0 := HLT.out (j - 1) (by omega)
                have hcell : wr.cell? ⟨w.heap.size, 0, none⟩ = some (.int .u8 ((y + ones (j - 1) : Nat) : Int)) := by
                  rw [R.cell 0 (by simp)]
                  exact congrArg some (b8_small _ (by omega))
                have hfz := R.frozen 0
                have R' := R.set 0 (UInt8.ofNat (y + ones j))
                rw [b8_small _ hy1, List.set_cons_zero] at R'
                have B' := B.setCell (p := ⟨w.heap.size, 0, none⟩) (Nat.le_refl _) (.int .u8 ((y + ones j : Nat) : Int))
                clear R
                generalize hz : 2 ^ (8 - j) = z at *
                generalize hp : ones (j - 1) = p at *
                generalize hq : ones j = q1 at *
                have hsum : ((y + p : Nat) : Int) + z = ((y + q1 : Nat) : Int) := by omega
                have hb : y + q1 < 256 := hy1
                obtain ⟨s, hs⟩ : ∃ s, s = y + p := ⟨_, rfl⟩
                obtain ⟨t, ht⟩ : ∃ t, t = y + q1 := ⟨_, rfl⟩
                rw [← hs] at hcell hsum
                rw [← ht] at hsum R' B' hb
                have HZ := Lib.hid hz
                have HQ1 := Lib.hid hq
                have HT := Lib.hid ht
                clear hs ht hz hp hq hs1 hy1 hy0
                have hsw : IntKind.u8.wrap ((s : Int) + z) = t := by rw [hsum, IntKind.wrap_u8']; omega
                clear hsum
                go_wp2
                go_roundw
                case rel =>
                  refine ⟨B', j + 1, by omega, by omega, by go_num, ?_, ?_⟩
                  · rw [← hh.out]; simp
                  · rw [Nat.add_sub_cancel, HQ1.out, ← HT.out]; exact R'
                case measure => simp [intOf]; omega
              · obtain rfl : j = k0 + 1 := by omega
                rw [Nat.add_sub_cancel, ← HCO.out] at R
                have R' := Lib.hid R
                clear R
                go_wp2
                go_ret
                have O := R'.out.own (Nat.le_refl _) (by rw [HC.out]; omega)
                rw [HC.out] at O
                exact ⟨_, rfl, O, B⟩
end Go.Proofs.YtdbhgkbmbbjpdaaGreatDoor.Coin
namespace Go.Proofs.YtdbhgkbmbbjpdaaGreatDoor.Coin
open Go.ChangeShapes Go.WideShapes Go.ChangeAt Go.RowKit
set_option maxRecDepth 4000
end Go.Proofs.YtdbhgkbmbbjpdaaGreatDoor.Coin
