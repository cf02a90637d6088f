/- What frame.Scan answers. -/
import Derived.Test.YtjhkgdgbmmpegaaFOn
namespace Go.Proofs.Ytjhkgdgbmmpegaa.Frm
open Go.ChangeShapes Go.WideShapes Go.ChangeAt Go.RowKit
open Coin (b8 Rd Row Own sz coin got)
open Tal (more)

/-- The cells of an item: of the frame at a place, its bytes in a block. -/
def itemC (l : List UInt8) (x : Nat × Nat) : List Value := [.int .u8 ((kind (l.drop x.1)).toNat : Int), .slice (some ⟨x.2, 0, none⟩) (cnt (l.drop x.1)) (cnt (l.drop x.1)), .int .i64 (x.1 : Int), .int .i64 (x.1 + size (l.drop x.1) : Nat)]
/-- A slice of items. -/
structure Items (w : World) (base : Nat) (v : Value) (l : List UInt8) (xs : List (Nat × Nat)) : Prop where
  own : w.ownsRow base 26 4 v xs.length (xs.flatMap (itemC l))
  row : ∀ x ∈ xs, Row w x.2 (body (l.drop x.1)) ∧ base ≤ x.2
theorem Items.nil (w : World) (base : Nat) (l : List UInt8) : Items w base (.slice none 0 0) l [] := ⟨World.ownsRow_nil w base _ 4, fun x h => by simp at h⟩
theorem Items.kept {w w' : World} {base : Nat} {v : Value} {l : List UInt8} {xs : List (Nat × Nat)} (h : Items w base v l xs) (hb : Below w.heap.size w w') : Items w' base v l xs :=
  ⟨World.ownsRow.kept (row := none) h.own ⟨hb.os, hb.tape, hb.output, hb.size, fun k hk _ => hb.block k hk⟩ (by cases v.ownBlock <;> simp), fun x hx => ⟨(h.row x hx).1.below hb (h.row x hx).1.lt, (h.row x hx).2⟩⟩
theorem row_ne {w : World} {base : Nat} {e : TypeId} {sz n g : Nat} {v : Value} {us : List Value} {l : List UInt8} (h : w.ownsRow base e sz v n us) (he : e ≠ 5) (r : Row w g l) : some g ≠ v.ownBlock := by
  rcases h.2 with ⟨rfl, _⟩ | ⟨k, cap, cur, rfl, _, hg, _⟩
  · simp [Value.ownBlock]
  · intro hk
    simp only [Value.ownBlock, Option.some.injEq] at hk
    subst hk
    unfold Coin.Row at r
    rw [r] at hg
    injection hg with hg
    injection hg with _ h2
    exact he h2.symm
theorem info26 : (Try.prog.info? 26).map (fun i => (i.zero, i.size, i.bytes)) = some (some (.agg #[.int .u8 0, .slice none 0 0, .int .i64 0, .int .i64 0]), 4, 48) := by kernel_rfl
theorem cells4 {w : World} {b : Nat} {t : TypeId} {x0 x1 x2 x3 : Value} (h : w.heap[b]? = some (.cells #[x0, x1, x2, x3] t)) :
    w.cell? ⟨b, 0, none⟩ = some x0 ∧ w.cell? ⟨b, 1, none⟩ = some x1 ∧ w.cell? ⟨b, 2, none⟩ = some x2 ∧ w.cell? ⟨b, 3, none⟩ = some x3 ∧ ∀ i, w.frozen? ⟨b, i, none⟩ = false :=
  ⟨cell_of_row w b 0 _ t (0, 0) h, cell_of_row w b 1 _ t (0, 0) h, cell_of_row w b 2 _ t (0, 0) h, cell_of_row w b 3 _ t (0, 0) h, fun i => frozen_of_row w b i _ t h⟩
theorem cells_four (w : World) (x y z u : Value) (t : TypeId) : ∀ j v, [x, y, z, u][j]? = some v → (w.alloc (.cells #[x, y, z, u] t)).cell? ((⟨w.heap.size, 0, none⟩ : Addr).add j) = some v := by
  intro j u hj
  rw [Coin.zero_add', cell_of_row _ _ j _ t (0, 0) (heap_alloc_new w _)]
  simpa using hj
theorem Items.more {w w' : World} {base : Nat} {v v' : Value} {l : List UInt8} {xs : List (Nat × Nat)} {a g : Nat} (h : Items w base v l xs) (r : Row w g (body (l.drop a))) (hg : base ≤ g)
    (o : w'.ownsRow base 26 4 v' (xs.length + 1) (xs.flatMap (itemC l) ++ itemC l (a, g))) (hw : w.grownBy w' v.ownBlock) : Items w' base v' l (xs ++ [(a, g)]) := by
  refine ⟨?_, fun x hx => ?_⟩
  · rw [List.flatMap_append, List.length_append]
    simpa using o
  · have k : ∀ k m, Row w k m → Row w' k m := fun k m r => (hw.block k r.lt (row_ne h.own (by decide) r)).trans r
    rcases List.mem_append.1 hx with hx | hx
    · exact ⟨k _ _ (h.row x hx).1, (h.row x hx).2⟩
    · rw [List.mem_singleton] at hx
      subst hx
      exact ⟨k _ _ r, hg⟩
def ScanSaid (w : World) (l : List UInt8) (e : Ending) (w' : World) : Prop := ∃ v xs b er, e = .returned (.tuple #[v, .int .i64 (b : Nat), .int .i64 (er : Nat)]) ∧ Items w' w.heap.size v l xs ∧ chain l 0 (xs.map (·.1)) b ∧ ends l b er ∧ Below w.heap.size w w'

set_option maxRecDepth 100000 in
theorem scan_any (A : Option Addr) (cap B : Nat) (l : List UInt8) (w : World) (hl : l.length ≤ 900000) (hc : l.length ≤ cap) (hA : A = none → cap = 0) (hB : B ≤ w.heap.size) (hr : Rd w B A l) :
    Calls Try.prog 13 #[.slice A l.length cap] w (ScanSaid w l) := by
  have co : ∀ W b, Below w.heap.size w W → b ≤ l.length → Calls Try.prog 9 #[.slice A l.length cap, .int .i64 (b : Int)] W (OneSaid W (l.drop b) b) := fun W b h hb => one_any A cap B b l W hl hc hA hb (Nat.le_trans hB h.size) (hr.below h hB)
  obtain ⟨i0, hi, hz0, hz1, hz2⟩ := info_parts info26
  have HI := Lib.hid (And.intro hi (And.intro hz0 (And.intro hz1 hz2)))
  obtain ⟨m, hm⟩ : ∃ m, m = l.length := ⟨_, rfl⟩
  rw [← hm] at co ⊢
  have hm9 : m ≤ 900000 := by omega
  have HM := Lib.hid hm
  have HC : Hid (∀ W b, Below w.heap.size w W → b ≤ m → Calls Try.prog 9 #[.slice A m cap, .int .i64 (b : Int)] W (OneSaid W (l.drop b) b)) := co
  clear hm hi hz0 hz1 hz2 co hr hc hA hl
  go_enter Try.func13, Try.ntmps13
  go_wp2_with fail
  go_loopw [5, 6] (fun v i wr => ∃ b : Nat, b ≤ m ∧ i = .int .i64 b ∧ ∃ xs : List (Nat × Nat), Items wr w.heap.size v l xs ∧ Hid (chain l 0 (xs.map (·.1)) b) ∧ Below w.heap.size w wr) (fun _ i _ => m - (intOf i).toNat)
  case atStart => exact ⟨0, by omega, rfl, [], Items.nil _ _ _, rfl, Below.refl _ _⟩
  case round =>
    obtain ⟨b, hb, rfl, xs, I, CH, B⟩ := hrel
    by_cases hlt : b < m
    · have c := HC.out wr b B hb
      by_cases he : err (l.drop b) = 0
      · have hblt : b < l.length := by rw [← HM.out]; exact hlt
        have hsz := (err_ok _ he).2.2.1
        rw [List.length_drop, ← HM.out] at hsz
        have h1s : 1 ≤ size (l.drop b) := by unfold size; omega
        have hch := chain_snoc l (xs.map (·.1)) 0 b CH.out hblt he
        have hlen := chain_length l (xs.map (·.1)) 0 b (Nat.zero_le _) CH.out
        rw [List.length_map] at hlen
        obtain ⟨kk, hk⟩ : ∃ k : Int, k = (kind (l.drop b)).toNat := ⟨_, rfl⟩
        obtain ⟨n, hn⟩ : ∃ n, n = cnt (l.drop b) := ⟨_, rfl⟩
        obtain ⟨b2, hb2⟩ : ∃ b2, b2 = b + size (l.drop b) := ⟨_, rfl⟩
        have c := Calls.mono' c (Q' := fun e w' => ∃ g, e = .returned (.tuple #[.agg #[.int .u8 kk, .slice (some ⟨g, 0, none⟩) n n, .int .i64 (b : Nat), .int .i64 (b2 : Nat)], .int .i64 0]) ∧ Row w' g (body (l.drop b)) ∧ wr.heap.size ≤ g ∧ Below wr.heap.size wr w') (fun e w' h => by
          obtain ⟨g, h1, h2, h3⟩ := h.2.1 he
          exact ⟨g, by rw [hk, hn, hb2]; exact h1, h2, h3, h.2.2⟩)
        have hit : ∀ g, itemC l (b, g) = [.int .u8 kk, .slice (some ⟨g, 0, none⟩) n n, .int .i64 (b : Nat), .int .i64 (b2 : Nat)] := fun g => by unfold itemC; rw [hk, hn, hb2]
        rw [← hb2] at hch
        have hbm : b < b2 ∧ b2 ≤ m := by omega
        have HCH : Hid (chain l 0 ((xs.map (·.1)) ++ [b]) b2) := hch
        have HIT : Hid (∀ g, itemC l (b, g) = [.int .u8 kk, .slice (some ⟨g, 0, none⟩) n n, .int .i64 (b : Nat), .int .i64 (b2 : Nat)]) := hit
        have hlt' : (b : Int) < m := by omega
        have HL := Lib.hid hlen
        clear hk hn hb2 hch hit hlen h1s hsz
        go_wp2_with (first
          | (go_at_call 9; (with_reducible refine c.mono ?_); rintro e w2 ⟨g, rfl, R2, hg2, B2⟩; have E2 : (w2.alloc (.cells #[.int .u8 0, .slice none 0 0, .int .i64 0, .int .i64 0] 26)).heap[w2.heap.size]? = some (.cells #[.int .u8 0, .slice none 0 0, .int .i64 0, .int .i64 0] 26) := heap_alloc_new w2 _; have HB2 := Lib.hid (And.intro R2 (And.intro hg2 B2)); clear R2 hg2 B2)
          | (with_reducible refine put26 rfl (.tmp 7) (.tmp 17) rfl w2.heap.size rfl E2 rfl ?_; intro w3 E3 G3; obtain ⟨p0, p1, p2, p3, pf⟩ := cells4 E3; have b2' := HB2.out.2.2.alloc HB2.out.2.2.size (.cells #[.int .u8 0, .slice none 0 0, .int .i64 0, .int .i64 0] 26); have b3 := b2'.grown G3 b2'.size (fun k h => by cases h; exact HB2.out.2.2.size); have b4 := b3.alloc b3.size (.cells #[.int .u8 kk, .slice (some ⟨g, 0, none⟩) n n, .int .i64 (b : Nat), .int .i64 (b2 : Nat)] 26); have I4 := I.kept b4; have s4 := Nat.le_trans B.size b4.size; have HG3 := Lib.hid (And.intro E3 (And.intro G3 (And.intro b3 (And.intro b4 I4)))); clear E3 G3 b2' b3 b4 I4)
          | (at_builtin; refine wpList_append_own _ rfl (.tmp 24) (.tmp 26) 34 rfl w.heap.size 26 i0 _ 4 48 Try.underlying34 HI.out.1 HI.out.2.1 HI.out.2.2.1 HI.out.2.2.2 rfl (by decide) u5 _ _ rfl (HG3.out.2.2.2.2.own) ⟨w3.heap.size, 0, none⟩ 1 1 [.int .u8 kk, .slice (some ⟨g, 0, none⟩) n n, .int .i64 (b : Nat), .int .i64 (b2 : Nat)] rfl rfl (cells_four _ _ _ _ _ _) (by intro u hu; simp at hu; rcases hu with rfl | rfl | rfl | rfl <;> rfl) (by have := HL.out; unfold maxLen; omega) (by have := HL.out; omega) s4 ?_; intro v5 w5 o5 G5 nil5; have q5 := (cells4 ((G5.block w2.heap.size (by have := (Array.getElem?_eq_some_iff.1 HG3.out.1).1; simp; omega) (fun h => by have h1 := (World.ownsRow.lt I.own _ h.symm).2; have h2 := HB2.out.2.2.size; omega)).trans ((heap_alloc_old w3 _ (Array.getElem?_eq_some_iff.1 HG3.out.1).1).trans HG3.out.1))).2.2.2.1; have HO5 := Lib.hid (And.intro o5 G5); clear o5 G5 nil5))
        have b5 : Below w.heap.size w w5 := (B.trans (HG3.out.2.2.2.1.mono B.size)).grown HO5.out.2 s4 (fun k hk => (World.ownsRow.lt I.own k hk).1)
        have r4 := HB2.out.1
        have r5 : Row (w3.alloc (.cells #[.int .u8 kk, .slice (some ⟨g, 0, none⟩) n n, .int .i64 (b : Nat), .int .i64 (b2 : Nat)] 26)) g (body (l.drop b)) := by
          have h2 := HB2.out.2.2
          refine (heap_alloc_old w3 _ ?_).trans ((HG3.out.2.1.block g ?_ ?_).trans ((heap_alloc_old w2 _ r4.lt).trans r4))
          · have h3 := HG3.out.2.1.size; have h4 := r4.lt; simp at h3; omega
          · have := r4.lt; simp; omega
          · intro h; injection h with h; have := r4.lt; omega
        have i5 := (HG3.out.2.2.2.2).more r5 (Nat.le_trans B.size HB2.out.2.1) (by rw [HIT.out g]; exact HO5.out.1) HO5.out.2
        go_roundw
        case rel => exact ⟨b2, hbm.2, rfl, xs ++ [(b, g)], i5, by show chain _ _ _ _; rw [List.map_append]; exact HCH.out, b5⟩
        case measure => simp [intOf]; omega
      · obtain ⟨x, hx⟩ : ∃ x, x = err (l.drop b) := ⟨_, rfl⟩
        have c := Calls.mono' c (Q' := fun e w' => e = .returned (.tuple #[.agg #[.int .u8 0, .slice none 0 0, .int .i64 0, .int .i64 0], .int .i64 (x : Nat)]) ∧ Below wr.heap.size wr w') (fun e w' h => by
          rw [hx]; exact ⟨h.1 he, h.2.2⟩)
        rw [← hx] at he
        have HX := Lib.hid hx
        have hlt' : (b : Int) < m := by omega
        clear hx
        go_wp2_with (first
          | (go_at_call 9; (with_reducible refine c.mono ?_); rintro e w2 ⟨rfl, B2⟩; have E2 : (w2.alloc (.cells #[.int .u8 0, .slice none 0 0, .int .i64 0, .int .i64 0] 26)).heap[w2.heap.size]? = some (.cells #[.int .u8 0, .slice none 0 0, .int .i64 0, .int .i64 0] 26) := heap_alloc_new w2 _)
          | (with_reducible refine put26 rfl (.tmp 7) (.tmp 17) rfl w2.heap.size rfl E2 rfl ?_; intro w3 E3 G3))
        (try simp only [Exit.inBlock, Exit.then])
        refine bodyPost_ret (results_tmp3 rfl _ _ _) rfl ?_
        have b2 : Below wr.heap.size wr (w2.alloc (.cells #[.int .u8 0, .slice none 0 0, .int .i64 0, .int .i64 0] 26)) := B2.alloc B2.size _
        have b3 := b2.grown G3 b2.size (fun k h => by cases h; exact B2.size)
        exact ⟨u5, xs, b, x, rfl, I.kept b3, CH.out, .inr ⟨by rw [← HM.out]; exact hlt, HX.out.symm, he⟩, B.trans (b3.mono B.size)⟩
    · obtain rfl : b = m := by omega
      have hlt' : ¬ (b : Int) < b := by omega
      go_wp2_with fail
      (try simp only [Exit.inBlock, Exit.then])
      refine bodyPost_ret (results_tmp3 rfl _ _ _) rfl ?_
      exact ⟨u5, xs, b, 0, rfl, I, CH.out, .inl ⟨HM.out, rfl⟩, B⟩
end Go.Proofs.Ytjhkgdgbmmpegaa.Frm
