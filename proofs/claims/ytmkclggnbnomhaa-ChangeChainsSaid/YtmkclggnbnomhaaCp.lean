/- Contract: a prefix out of a purse. -/
import Derived.Test.YtmkclggnbnomhaaCd
import Derived.Test.YtmkclggnbnomhaaHi
import Derived.Deep.DeepCutAuto
import Derived.Deep.RegionHeld3
import Derived.Laws.CopyOwn
namespace Go.Proofs.Ytmkclggnbnomhaa.Chg
open Coin
open Go.ChangeShapes Go.WideShapes Go.ChangeAt Go.RowKit

/-- What takePrefix has in memory. -/
structure TP (w wx : World) (q gp p n : Nat) (bs l : List UInt8) : Prop where
  gq : w.grownBy wx (some q)
  pu : Pur wx q l 0
  rr : wx.heap[w.heap.size + 1]? = some (.cells #[.int .u32 0, .int .u8 0] 29 (0, 0))
  rp : wx.heap[gp]? = some (.cells #[.int .u32 p, .int .u8 n] 29 (0, 0))
  ar : Arr wx (gp + 1) bs
  l1 : w.heap.size + 1 < gp
  l2 : q < w.heap.size
theorem TP.chg {w wx w' : World} {q gp p n : Nat} {bs bs' l : List UInt8} (h : TP w wx q gp p n bs l) (B : Below (gp + 1) wx w') (ar : Arr w' (gp + 1) bs') : TP w w' q gp p n bs' l := by
  have l1 := h.l1
  have l2 := h.l2
  refine ⟨⟨B.os.trans h.gq.os, B.tape.trans h.gq.tape, B.output.trans h.gq.output, Nat.le_trans h.gq.size B.size, fun k hk hn => ?_⟩, h.pu.far fun i hi => B.block i (by omega), (B.block _ (by omega)).trans h.rr, (B.block _ (by omega)).trans h.rp, ar, l1, l2⟩
  exact (B.block k (by omega)).trans (h.gq.block k hk hn)
theorem TP.call {w wx w' : World} {q gp p n : Nat} {bs l : List UInt8} (h : TP w wx q gp p n bs l) (B : Below wx.heap.size wx w') : TP w w' q gp p n bs l :=
  h.chg (B.mono (Nat.le_of_lt h.ar.lt)) ((B.block _ h.ar.lt).trans h.ar)
theorem TP.bytes {w wx w' : World} {q gp p n : Nat} {bs l l' : List UInt8} (h : TP w wx q gp p n bs l) (G : wx.grownBy w' (some q)) (P : Pur w' q l' 0) : TP w w' q gp p n bs l' := by
  have l1 := h.l1
  have l2 := h.l2
  have l3 := h.ar.lt
  have ne : ∀ k, k ≠ q → some k ≠ some q := fun k hk e => hk (by injection e)
  exact ⟨grown_trans h.gq G, P, (G.block _ (by omega) (ne _ (by omega))).trans h.rr, (G.block _ (by omega) (ne _ (by omega))).trans h.rp, (G.block _ l3 (ne _ (by omega))).trans h.ar, l1, l2⟩
theorem TP.setp {w wx : World} {q gp p n : Nat} {bs l : List UInt8} (h : TP w wx q gp p n bs l) (p' : Nat) : TP w (wx.setCell ⟨gp, 0, none⟩ (.int .u32 (p' : Nat))) q gp p' n bs l := by
  have l1 := h.l1
  have l2 := h.l2
  have ne : ∀ k, k ≠ gp → (wx.setCell ⟨gp, 0, none⟩ (.int .u32 (p' : Nat))).heap[k]? = wx.heap[k]? := fun k hk => Below.heap_setCell wx ⟨gp, 0, none⟩ _ k hk
  refine ⟨⟨h.gq.os, h.gq.tape, h.gq.output, by simpa using h.gq.size, fun k hk hn => (ne k (by omega)).trans (h.gq.block k hk hn)⟩, h.pu.far fun i hi => ne i (by omega), (ne _ (by omega)).trans h.rr, ?_, (ne _ (by omega)).trans h.ar, l1, l2⟩
  rw [heap_setCell_same wx gp 0 _ 29 _ h.rp]
  rfl
theorem TP.done {w wx : World} {q gp p n : Nat} {bs l : List UInt8} (h : TP w wx q gp p n bs l) (y0 y1 : Value) : Pur ((wx.setCell ⟨w.heap.size + 1, 0, none⟩ y0).setCell ⟨w.heap.size + 1, 1, none⟩ y1) q l 0 ∧ w.grownBy ((wx.setCell ⟨w.heap.size + 1, 0, none⟩ y0).setCell ⟨w.heap.size + 1, 1, none⟩ y1) (some q) := by
  have l1 := h.l1
  have l2 := h.l2
  have ne : ∀ k, k ≠ w.heap.size + 1 → ((wx.setCell ⟨w.heap.size + 1, 0, none⟩ y0).setCell ⟨w.heap.size + 1, 1, none⟩ y1).heap[k]? = wx.heap[k]? := fun k hk => (Below.heap_setCell _ ⟨w.heap.size + 1, 1, none⟩ _ k hk).trans (Below.heap_setCell wx ⟨w.heap.size + 1, 0, none⟩ _ k hk)
  exact ⟨h.pu.far fun i hi => ne i (by omega), ⟨h.gq.os, h.gq.tape, h.gq.output, by simpa using h.gq.size, fun k hk hn => (ne k (by omega)).trans (h.gq.block k hk hn)⟩⟩
/-- The address, byte by byte. -/
def pj (v0 v1 v2 v3 : Nat) : Nat → Nat
  | 0 => 0
  | 1 => v0
  | 2 => v0 * 256 + v1
  | 3 => (v0 * 256 + v1) * 256 + v2
  | _ => ((v0 * 256 + v1) * 256 + v2) * 256 + v3
theorem or_byte (p v : Nat) (hp : p < 16777216) (hv : v < 256) : bits .or .u32 ((p : Int) * 256) (v : Int) = ((p * 256 + v : Nat) : Int) := by
  have := u32_or_nat (p * 256) v (by omega) (by omega)
  rw [nat_join 8 _ _ (by omega) (by omega)] at this
  simpa using this
theorem ix0 (v0 v1 v2 v3 : Int) (W : World) : (Instr.index 72 (.agg #[.int .u8 v0, .int .u8 v1, .int .u8 v2, .int .u8 v3]) (.int .i64 0)).run Try.prog W = .ok (.int .u8 v0) W := by rfl
theorem ix1 (v0 v1 v2 v3 : Int) (W : World) : (Instr.index 72 (.agg #[.int .u8 v0, .int .u8 v1, .int .u8 v2, .int .u8 v3]) (.int .i64 1)).run Try.prog W = .ok (.int .u8 v1) W := by rfl
theorem ix2 (v0 v1 v2 v3 : Int) (W : World) : (Instr.index 72 (.agg #[.int .u8 v0, .int .u8 v1, .int .u8 v2, .int .u8 v3]) (.int .i64 2)).run Try.prog W = .ok (.int .u8 v2) W := by rfl
theorem ix3 (v0 v1 v2 v3 : Int) (W : World) : (Instr.index 72 (.agg #[.int .u8 v0, .int .u8 v1, .int .u8 v2, .int .u8 v3]) (.int .i64 3)).run Try.prog W = .ok (.int .u8 v3) W := by rfl
theorem splice_b8 (x : List UInt8) (y z : List UInt8) (k : Nat) (hk : k = x.length) : splice ((x ++ z).map b8) k (y.map b8) = (x ++ (y ++ z.drop y.length)).map b8 := by
  subst hk
  unfold splice
  rw [List.length_map, ← List.map_take, ← List.map_drop, List.take_left, ← List.map_append, ← List.map_append]
  congr 2
  rw [List.drop_append, List.drop_of_length_le (by omega)]
  simp
set_option maxRecDepth 8000 in
set_option maxHeartbeats 8000000 in
theorem tprefix_any (a0 n0 a n g s hd : Nat) (ha0 : a0 < 4294967296) (hn0 : n0 ≤ 32) (ha : a < 4294967296) (hn : n ≤ 32) (hr : Pre.right a n = true) (hg : g ≤ 1) (hs : s = same (begun a0 n0) (begun a n)) (hhd : hd = 16 * n + 2 * s + g) (r : List UInt8) (w : World) (q : Nat) (h : Pur w q ((begun a n).drop s ++ r) 0) :
    Calls Try.prog 34 #[.agg #[.int .u32 a0, .int .u8 n0], .int .u64 hd, .pointer (some ⟨q, 0, none⟩)] w fun e w' => e = .returned (.agg #[.int .u32 a, .int .u8 n]) ∧ Pur w' q r 0 ∧ w.grownBy w' (some q) := by
  have c15 := fun W => begun_any a0 n0 ha0 hn0 W
  have d15 := fun W => begun_any 0 n (by decide) hn W
  have hA := begun_len a0 n0 hn0
  have hB := begun_len a n hn
  have hZ := begun_len 0 n hn
  have hsl := same_le (begun a0 n0) (begun a n)
  have hst := same_take (begun a0 n0) (begun a n)
  have hrb := right_bytes a n ha hn hr
  rw [← hs] at hsl hst
  unfold BegunSaid at c15 d15
  rw [hZ] at d15
  rw [hA] at c15
  have HST := Lib.hid (And.intro hst hrb)
  have HLN := Lib.hid (And.intro hA (And.intro hB hZ))
  rw [hA, hB] at hsl
  have hk0 : (n0 + 7) / 8 ≤ 4 := by omega
  have hk1 : (n + 7) / 8 ≤ 4 := by omega
  clear hA hB hZ hst hrb hs
  have h1 : (hd : Int) % 16 / 2 = s := by omega
  have h2 : IntKind.u64.wrap ((hd : Int) / 16) % 256 = n := by rw [wrap_u64]; omega
  generalize (n0 + 7) / 8 = kA at *
  generalize (n + 7) / 8 = kB at *
  have h3 : min (s : Int) (kA : Int) = s := by omega
  clear hhd
  have HP := Lib.hid h
  clear h
  go_enter Try.func34, Try.ntmps34
  go_upto_region 5 with (first
    | (go_at_call 15; (with_reducible refine (c15 _).mono ?_); rintro e w1 ⟨g1, hg1, rfl, RA, B1⟩; clear c15))
  have hq := HP.out.lt
  have TQ : TP w ((w1.alloc (.cells #[.int .u32 0, .int .u8 n] 29)).alloc (.cells #[.int .u8 0, .int .u8 0, .int .u8 0, .int .u8 0] 72)) q w1.heap.size 0 n (List.replicate 4 0) ((begun a n).drop s ++ r) := by
    have s1 := B1.size
    have BB : Below w.heap.size w ((w1.alloc (.cells #[.int .u32 0, .int .u8 n] 29)).alloc (.cells #[.int .u8 0, .int .u8 0, .int .u8 0, .int .u8 0] 72)) := ((((((Below.refl _ _).alloc (Nat.le_refl _) _).alloc (by simp) _).trans (B1.mono (by simp; omega))).alloc (by simp at s1; omega) _).alloc (by simp at s1 ⊢; omega) _)
    refine ⟨⟨BB.os, BB.tape, BB.output, BB.size, fun k hk _ => BB.block k hk⟩, HP.out.below BB, ?_, heap_new0 w1 _ _, heap_new1 w1 _ _, by simp at s1; omega, hq⟩
    rw [heap_alloc_old _ _ (by simp at s1 ⊢; omega), heap_alloc_old _ _ (by simp at s1; omega), B1.block _ (by simp)]
    exact heap_new1 w _ _
  have RA := RA.below (B' := w1.heap.size) (((Below.refl w1.heap.size w1).alloc (Nat.le_refl _) (.cells #[.int .u32 0, .int .u8 n] 29)).alloc (by simp) (.cells #[.int .u8 0, .int .u8 0, .int .u8 0, .int .u8 0] 72)) (Nat.le_refl _)
  have hgv : w1.heap.size ≤ ((w1.alloc (.cells #[.int .u32 0, .int .u8 n] 29)).alloc (.cells #[.int .u8 0, .int .u8 0, .int .u8 0, .int .u8 0] 72)).heap.size := by simp; omega
  have hup := fun W => upto_any (A := some ⟨g1, 0, none⟩) kA 4 s (by simp) hk0 hsl.1 W
  clear B1 HP
  generalize ((w1.alloc _).alloc _) = wv at *
  generalize w1.heap.size = gp at *
  refine wp_region_noPanic ?_
  refine wp_region_held_drew (S := fun W : World => True) (by kernel_rfl) trivial (fun hHeld => ?_)
  replace TQ := TQ.call (Below.refl _ _).drew
  have RA := RA.below (B' := wv.heap.size) (Below.refl _ _).drew hgv
  generalize wv.drew = wd at *
  refine wpAnyH_take (i := 0) (oi := { dst := some 26, op := Op.slice 72 (Operand.tmp 10) none none none, type := 35, pos := "change.go:114", after := #[], guard := none }) (v := .slice (some ⟨gp + 1, 0, none⟩) 4 4) rfl (by kernel_rfl) (by kernel_rfl) (by kernel_rfl) (fun _ _ _ h => h) (Or.inl ⟨by rfl, fun w hSw => by have hz := arr_all (gp + 1) w; go_simp⟩) (by assumption) ?_
  try simp only [Act.put, List.setIfInBounds_toArray, List.set_cons_zero, List.set_cons_succ]
  refine wpAnyH_take (i := 1) (oi := { dst := some 27, op := Op.move (Operand.tmp 7), type := 35, pos := "change.go:114", after := #[], guard := none }) (v := .slice (some ⟨g1, 0, none⟩) kA 4) rfl (by kernel_rfl) (by kernel_rfl) (by kernel_rfl) (fun _ _ _ h => h) (Or.inl ⟨by rfl, fun w hSw => by go_simp⟩) (by assumption) ?_
  try simp only [Act.put, List.setIfInBounds_toArray, List.set_cons_zero, List.set_cons_succ]
  refine wpAnyH_take (i := 2) (oi := { dst := some 28, op := Op.move (Operand.tmp 8), type := 3, pos := "change.go:114", after := #[], guard := none }) (v := .int .i64 (s : Int)) rfl (by kernel_rfl) (by kernel_rfl) (by kernel_rfl) (fun _ _ _ h => h) (Or.inl ⟨by rfl, fun w hSw => by go_simp⟩) (by assumption) ?_
  try simp only [Act.put, List.setIfInBounds_toArray, List.set_cons_zero, List.set_cons_succ]
  refine wpAnyH_take (i := 3) (oi := { dst := some 29, op := Op.slice 35 (Operand.tmp 27) none (some (Operand.tmp 28)) none, type := 35, pos := "change.go:114", after := #[{ on := 1, ground := Ground.data }, { on := 2, ground := Ground.data }], guard := none }) (v := .slice (some ⟨g1, 0, none⟩) s 4) rfl (by kernel_rfl) (by kernel_rfl) (by kernel_rfl) (fun _ _ _ h => h) (Or.inl ⟨by rfl, fun w hSw => by have hz := hup w; go_simp⟩) (by assumption) ?_
  try simp only [Act.put, List.setIfInBounds_toArray, List.set_cons_zero, List.set_cons_succ]
  refine wpAnyH_ready (rs := [4]) (by kernel_rfl) (by simp) ?_
  refine AllReadyH.cons (o := { dst := some 30, op := Op.call { callee := Callee.builtin Builtin.copy, args := #[Operand.tmp 26, Operand.tmp 29], argTypes := #[35, 35] }, type := 3, pos := "change.go:114", after := #[{ on := 0, ground := Ground.data }, { on := 3, ground := Ground.data }], guard := none }) rfl (fun K hK => ?_) AllReadyH.nil
  refine step_copy_splice rfl (.tmp 26) (.tmp 29) 35 35 rfl 5 Try.underlying35 size5 (some ⟨gp + 1, 0, none⟩) (some ⟨g1, 0, none⟩) 4 4 s 4 rfl rfl (gp + 1) 0 _ 72 TQ.ar (((begun a0 n0).take s).map b8) (by rw [List.length_map, List.length_take, HLN.out.1]; show min s kA = min s 4; omega) (fun h0 => ⟨rfl, (RA.take s).src (by simpa using h0)⟩) (by rw [List.length_map, List.length_map, List.length_take, List.length_replicate]; omega) (one_b8 _) (gp + 1) wd (Below.refl _ _) (Nat.le_refl _) ?_
  intro w3 H3 B3
  have A3 : Arr w3 (gp + 1) ((begun a0 n0).take s ++ List.replicate (4 - s) 0) := by
    have h := H3.out
    have e := splice_b8 [] ((begun a0 n0).take s) (List.replicate 4 0) 0 rfl
    rw [List.nil_append] at e
    rw [e] at h
    rw [List.nil_append, List.drop_replicate, List.length_take, HLN.out.1, Nat.min_eq_left hsl.1] at h
    exact h
  have TQ := TQ.chg B3 A3
  refine hK.out _ _ (trivial) (fun hHeld => ?_)
  clear hK K
  try simp only [Act.put, List.setIfInBounds_toArray, List.set_cons_zero, List.set_cons_succ]
  refine wpAnyH_done (by kernel_rfl) ?_ _
  try unfold NoPanic
  go_upto_region 6 with (fail)
  have hs4 : s ≤ 4 := by omega
  replace d15 : ∀ W, Calls Try.prog 15 #[.agg #[.int .u32 0, .int .u8 n]] W _ := d15
  have hsub : IntKind.i64.wrap ((kB : Int) - s) = ((kB - s : Nat) : Int) := by rw [IntKind.wrap_i64]; omega
  have hdl : ((begun a n).drop s).length = kB - s := by rw [List.length_drop, HLN.out.2.1]
  have hbv : bytesV ((begun a n).drop s ++ r) 0 ((kB - s : Nat) : Int) = ((begun a n).drop s, r, 0) := by
    unfold bytesV
    rw [if_neg (by omega), if_neg (by rw [List.length_append, hdl]; omega), Int.toNat_natCast, ← hdl, List.take_left, List.drop_left]
  have HBV := Lib.hid (And.intro hbv hdl)
  clear hbv hdl hup RA
  obtain ⟨os, hos⟩ : ∃ o, o = if s = 4 then 0 else s := ⟨_, rfl⟩
  have haf := fun W => arr_from (gp + 1) s hs4 W
  rw [← hos] at haf
  have HAF := Lib.hid haf
  have HOS := Lib.hid hos
  clear haf hos
  refine wp_region_noPanic ?_
  replace TQ := TQ.call (Below.refl _ _).drew
  refine wp_region_held_drew (S := fun W : World => W.heap[gp]? = some (.cells #[.int .u32 ((0 : Nat) : Int), .int .u8 (n : Nat)] 29 (0, 0))) (by kernel_rfl) TQ.rp (fun hHeld => ?_)
  generalize w3.drew = we at *
  refine wpAnyH_take (i := 0) (oi := { dst := some 31, op := Op.move (Operand.tmp 8), type := 3, pos := "change.go:115", after := #[], guard := none }) (v := .int .i64 (s : Int)) rfl (by kernel_rfl) (by kernel_rfl) (by kernel_rfl) (fun _ _ _ h => h) (Or.inl ⟨by rfl, fun w hSw => by go_simp⟩) (by assumption) ?_
  try simp only [Act.put, List.setIfInBounds_toArray, List.set_cons_zero, List.set_cons_succ]
  refine wpAnyH_take (i := 1) (oi := { dst := some 32, op := Op.slice 72 (Operand.tmp 10) (some (Operand.tmp 31)) none none, type := 35, pos := "change.go:115", after := #[{ on := 0, ground := Ground.data }], guard := none }) (v := .slice (some ⟨gp + 1, os, none⟩) (4 - s) (4 - s)) rfl (by kernel_rfl) (by kernel_rfl) (by kernel_rfl) (fun _ _ _ h => h) (Or.inl ⟨by rfl, fun w hSw => by have hz := HAF.out w; go_simp⟩) (by assumption) ?_
  try simp only [Act.put, List.setIfInBounds_toArray, List.set_cons_zero, List.set_cons_succ]
  refine wpAnyH_take (i := 2) (oi := { dst := some 33, op := Op.move (Operand.tmp 2), type := 61, pos := "change.go:115", after := #[], guard := none }) (v := .pointer (some ⟨q, 0, none⟩)) rfl (by kernel_rfl) (by kernel_rfl) (by kernel_rfl) (fun _ _ _ h => h) (Or.inl ⟨by rfl, fun w hSw => by go_simp⟩) (by assumption) ?_
  try simp only [Act.put, List.setIfInBounds_toArray, List.set_cons_zero, List.set_cons_succ]
  refine wpAnyH_take (i := 3) (oi := { dst := some 34, op := Op.load 29 (Operand.tmp 9), type := 29, pos := "change.go:115", after := #[], guard := none }) (v := .agg #[.int .u32 0, .int .u8 (n : Int)]) rfl (by kernel_rfl) (by kernel_rfl) (by kernel_rfl) (fun _ _ _ h => h) (Or.inl ⟨by rfl, fun w hSw => by obtain ⟨y0, y1⟩ := row2 hSw; go_simp⟩) (by assumption) ?_
  try simp only [Act.put, List.setIfInBounds_toArray, List.set_cons_zero, List.set_cons_succ]
  refine wpAnyH_take (i := 6) (oi := { dst := some 37, op := Op.move (Operand.tmp 8), type := 3, pos := "change.go:115", after := #[], guard := none }) (v := .int .i64 (s : Int)) rfl (by kernel_rfl) (by kernel_rfl) (by kernel_rfl) (fun _ _ _ h => h) (Or.inl ⟨by rfl, fun w hSw => by go_simp⟩) (by assumption) ?_
  try simp only [Act.put, List.setIfInBounds_toArray, List.set_cons_zero, List.set_cons_succ]
  refine wpAnyH_ready (rs := [4]) (by kernel_rfl) (by simp) ?_
  refine AllReadyH.cons (o := { dst := some 35, op := Op.call { callee := Callee.value (Operand.func 15), args := #[Operand.tmp 34], argTypes := #[29] }, type := 35, pos := "change.go:115", after := #[{ on := 3, ground := Ground.data }], guard := none }) rfl (fun K hK => ?_) AllReadyH.nil
  go_simp
  with_reducible refine (d15 _).mono ?_
  rintro e w4 ⟨g4, hg4, rfl, RZ, B4⟩
  have TQ := TQ.call B4
  refine hK.out _ _ (TQ.rp) (fun hHeld => ?_)
  clear hK K
  try simp only [Act.put, List.setIfInBounds_toArray, List.set_cons_zero, List.set_cons_succ]
  refine wpAnyH_take (i := 5) (oi := { dst := some 36, op := Op.call { callee := Callee.builtin Builtin.len, args := #[Operand.tmp 35], argTypes := #[35] }, type := 3, pos := "change.go:115", after := #[{ on := 4, ground := Ground.data }], guard := none }) (v := .int .i64 (kB : Int)) rfl (by kernel_rfl) (by kernel_rfl) (by kernel_rfl) (fun _ _ _ h => h) (Or.inl ⟨by rfl, fun w hSw => by go_simp⟩) (by assumption) ?_
  try simp only [Act.put, List.setIfInBounds_toArray, List.set_cons_zero, List.set_cons_succ]
  refine wpAnyH_take (i := 7) (oi := { dst := some 38, op := Op.binOp BinOp.sub 3 (Operand.tmp 36) (Operand.tmp 37) 3, type := 3, pos := "change.go:115", after := #[{ on := 5, ground := Ground.data }, { on := 6, ground := Ground.data }], guard := none }) (v := .int .i64 ((kB - s : Nat) : Int)) rfl (by kernel_rfl) (by kernel_rfl) (by kernel_rfl) (fun _ _ _ h => h) (Or.inl ⟨by rfl, fun w hSw => by have hz := hsub; go_simp⟩) (by assumption) ?_
  try simp only [Act.put, List.setIfInBounds_toArray, List.set_cons_zero, List.set_cons_succ]
  refine wpAnyH_ready (rs := [8]) (by kernel_rfl) (by simp) ?_
  refine AllReadyH.cons (o := { dst := some 39, op := Op.call { callee := Callee.value (Operand.func 45), args := #[Operand.tmp 33, Operand.tmp 38], argTypes := #[61, 3] }, type := 35, pos := "change.go:115", after := #[{ on := 2, ground := Ground.data }, { on := 7, ground := Ground.data }, { on := 4, ground := Ground.chain }], guard := none }) rfl (fun K hK => ?_) AllReadyH.nil
  have c45 := bytes_any w4 q _ 0 ((kB - s : Nat) : Int) TQ.pu (by omega)
  rw [HBV.out.1] at c45
  unfold BytesSaid at c45
  dsimp only at c45
  rw [HBV.out.2] at c45
  go_simp
  with_reducible refine c45.mono ?_
  rintro e w5 ⟨A5, c5, rfl, R5, P5, G5⟩
  have TQ := TQ.bytes G5 P5
  refine hK.out _ _ (TQ.rp) (fun hHeld => ?_)
  clear hK K
  try simp only [Act.put, List.setIfInBounds_toArray, List.set_cons_zero, List.set_cons_succ]
  refine wpAnyH_ready (rs := [9]) (by kernel_rfl) (by simp) ?_
  refine AllReadyH.cons (o := { dst := some 40, op := Op.call { callee := Callee.builtin Builtin.copy, args := #[Operand.tmp 32, Operand.tmp 39], argTypes := #[35, 35] }, type := 3, pos := "change.go:115", after := #[{ on := 1, ground := Ground.data }, { on := 8, ground := Ground.data }, { on := 8, ground := Ground.chain }], guard := none }) rfl (fun K hK => ?_) AllReadyH.nil
  refine step_copy_splice rfl (.tmp 32) (.tmp 39) 35 35 rfl 5 Try.underlying35 size5 _ A5 (4 - s) (4 - s) (kB - s) c5 rfl rfl (gp + 1) s _ 72 TQ.ar (((begun a n).drop s).map b8) (by rw [List.length_map, HBV.out.2]; show kB - s = min (kB - s) (4 - s); omega) (fun h0 => ⟨by rw [List.length_map, HBV.out.2] at h0; rw [HOS.out, if_neg (by omega)], R5.src (by simpa using h0)⟩) (by rw [List.length_map, List.length_map, HBV.out.2, List.length_append, List.length_take, List.length_replicate, HLN.out.1]; omega) (one_b8 _) (gp + 1) w5 (Below.refl _ _) (Nat.le_refl _) ?_
  intro w6 H6 B6
  have A6 : Arr w6 (gp + 1) (be 4 a) := by
    have h := H6.out
    have e := splice_b8 ((begun a0 n0).take s) ((begun a n).drop s) (List.replicate (4 - s) 0) s (by rw [List.length_take, HLN.out.1]; omega)
    rw [e] at h
    rw [List.drop_replicate, HBV.out.2, HST.out.1, ← List.append_assoc, List.take_append_drop, show 4 - s - (kB - s) = 4 - kB by omega, HST.out.2] at h
    exact h
  have TQ := TQ.chg B6 A6
  refine hK.out _ _ (TQ.rp) (fun hHeld => ?_)
  clear hK K
  try simp only [Act.put, List.setIfInBounds_toArray, List.set_cons_zero, List.set_cons_succ]
  refine wpAnyH_done (by kernel_rfl) ?_ _
  try unfold NoPanic
  obtain ⟨v0, hv0⟩ : ∃ v, v = a / 16777216 % 256 := ⟨_, rfl⟩
  obtain ⟨v1, hv1⟩ : ∃ v, v = a / 65536 % 256 := ⟨_, rfl⟩
  obtain ⟨v2, hv2⟩ : ∃ v, v = a / 256 % 256 := ⟨_, rfl⟩
  obtain ⟨v3, hv3⟩ : ∃ v, v = a % 256 := ⟨_, rfl⟩
  have hl0 : v0 < 256 := by omega
  have hl1 : v1 < 256 := by omega
  have hl2 : v2 < 256 := by omega
  have hl3 : v3 < 256 := by omega
  have hva := Lib.hid (show ((v0 * 256 + v1) * 256 + v2) * 256 + v3 = a by omega)
  have har : w6.heap[gp + 1]? = some (.cells #[.int .u8 (v0 : Nat), .int .u8 (v1 : Nat), .int .u8 (v2 : Nat), .int .u8 (v3 : Nat)] 72 (0, 0)) := by
    have h := TQ.ar
    unfold Arr at h
    rw [be4] at h
    simp only [List.map_cons, List.map_nil, b8_ofNat] at h
    rw [h, hv0, hv1, hv2, hv3]
    simp
  clear hv0 hv1 hv2 hv3
  have e0 := cell_of_row w6 (gp + 1) 0 _ 72 (0, 0) har
  have e1 := cell_of_row w6 (gp + 1) 1 _ 72 (0, 0) har
  have e2 := cell_of_row w6 (gp + 1) 2 _ 72 (0, 0) har
  have e3 := cell_of_row w6 (gp + 1) 3 _ 72 (0, 0) har
  simp only [List.getElem?_toArray, List.getElem?_cons_zero, List.getElem?_cons_succ] at e0 e1 e2 e3
  have HTQ := Lib.hid TQ
  clear TQ har
  go_wp2
  go_loopw [42] (fun i wr => ∃ j : Nat, j ≤ 4 ∧ i = .int .i64 j ∧ Hid (TP w wr q gp (pj v0 v1 v2 v3 j) n (be 4 a) r)) (fun i _ => 4 - (intOf i).toNat)
  case atStart => exact ⟨0, by omega, rfl, HTQ⟩
  case round =>
    obtain ⟨j, hj, rfl, HT⟩ := hrel
    clear HTQ e0 e1 e2 e3
    obtain ⟨r0, r1⟩ := row2 HT.out.rp
    have fz := fun i => frozen_of_row wr gp i _ 29 HT.out.rp
    by_cases hlt : j < 4
    · have o0 : bits .or .u32 0 (v0 : Int) = v0 := by have h := or_byte 0 v0 (by omega) hl0; simpa using h
      have o1 := or_byte v0 v1 (by omega) hl1
      have o2 : bits .or .u32 (((v0 : Int) * 256 + v1) * 256) (v2 : Int) = (((v0 * 256 + v1) * 256 + v2 : Nat) : Int) := by
        have h := or_byte (v0 * 256 + v1) v2 (by omega) hl2
        rwa [show ((v0 * 256 + v1 : Nat) : Int) = (v0 : Int) * 256 + v1 by omega] at h
      have o3 : bits .or .u32 ((((v0 : Int) * 256 + v1) * 256 + v2) * 256) (v3 : Int) = ((((v0 * 256 + v1) * 256 + v2) * 256 + v3 : Nat) : Int) := by
        have h := or_byte ((v0 * 256 + v1) * 256 + v2) v3 (by omega) hl3
        rwa [show (((v0 * 256 + v1) * 256 + v2 : Nat) : Int) = ((v0 : Int) * 256 + v1) * 256 + v2 by omega] at h
      rcases (by omega : j = 0 ∨ j = 1 ∨ j = 2 ∨ j = 3) with rfl | rfl | rfl | rfl
      · simp only [pj] at r0
        have hix := ix0 v0 v1 v2 v3
        go_wp2
        go_roundw
        case rel => exact ⟨1, by omega, rfl, HT.out.setp v0⟩
        case measure => simp [intOf]
      · simp only [pj] at r0
        have hix := ix1 v0 v1 v2 v3
        go_wp2
        go_roundw
        case rel => exact ⟨2, by omega, rfl, HT.out.setp (v0 * 256 + v1)⟩
        case measure => simp [intOf]
      · simp only [pj] at r0
        have hix := ix2 v0 v1 v2 v3
        go_wp2
        go_roundw
        case rel => exact ⟨3, by omega, rfl, HT.out.setp ((v0 * 256 + v1) * 256 + v2)⟩
        case measure => simp [intOf]
      · simp only [pj] at r0
        have hix := ix3 v0 v1 v2 v3
        go_wp2
        go_roundw
        case rel => exact ⟨4, by omega, rfl, HT.out.setp (((v0 * 256 + v1) * 256 + v2) * 256 + v3)⟩
        case measure => simp [intOf]
    · obtain rfl : j = 4 := by omega
      simp only [pj] at r0
      rw [hva.out] at r0
      obtain ⟨hc0, hc1⟩ := row2 HT.out.rr
      have hf := fun i => frozen_of_row wr (w.heap.size + 1) i _ 29 HT.out.rr
      go_wp2
      exact bodyPost_ret (v := .agg #[.int .u32 (a : Nat), .int .u8 (n : Nat)]) (by simp [results, Try.results34, go_sem, hc0, hc1]) rfl ⟨rfl, HT.out.done _ _⟩
end Go.Proofs.Ytmkclggnbnomhaa.Chg
