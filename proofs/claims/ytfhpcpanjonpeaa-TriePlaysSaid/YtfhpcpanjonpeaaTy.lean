/- What isn't there is dropped; a route written over; the longest of a list. -/
import Derived.Test.YtfhpcpanjonpeaaTx
import Derived.Deep.DeepCutAuto
import Derived.Deep.RegionHeld3
namespace Go.Proofs.Ytfhpcpanjonpeaa.Tri
open Pre
open Go.ChangeShapes Go.WideShapes Go.ChangeAt Go.RowKit
set_option maxRecDepth 8000 in
set_option maxHeartbeats 8000000 in
theorem Drop_not {w : World} {g c : Nat} {t : T} {bs : List Nat} (h : TrAt w g t c bs) (hw : t.WF) (htt : t.Tight) (b m : Nat) (hb : b < 4294967296) (hwas : (t.drop b m).2 = false) :
    Calls Try.prog 11 #[.pointer (some ⟨g, 0, none⟩), .agg #[.int .u32 (b : Int), .int .u8 (m : Int)]] w fun e w' => e = .returned (.int .i64 2) ∧ TrAt w' g t c bs ∧ Grew w w' (g :: bs) := by
  have hgs := h.lt
  have HND := Lib.hid h.nd
  obtain ⟨v, hv, hA⟩ := h.row
  clear h
  obtain ⟨pv, rfl⟩ := hA.ptr
  have hP := not_any t b m hw htt hb hwas
  have hgb := (List.nodup_cons.1 HND.out).1
  have hxb : w.heap.size ∉ bs := fun e => Nat.lt_irrefl _ (hA.lt _ e)
  unfold NotSaid at hP
  clear hw hwas htt
  have R0 := heap_alloc_new w (.cells #[.int .u32 (b : Int), .int .u8 (m : Int)] 32)
  have B0 : Below w.heap.size w (w.alloc (.cells #[.int .u32 (b : Int), .int .u8 (m : Int)] 32)) := (Below.refl _ _).alloc (Nat.le_refl _) _
  have HB := Lib.hid R0
  have HQ := Lib.hid ((B0.block _ hgs).trans hv)
  have HG := Lib.hid B0
  have HT := Lib.hid hA
  have hwg : w.heap.size ≠ g := by omega
  clear hv hA B0 R0
  go_enter Try.func11, Try.ntmps11
  go_upto_region 3 with (fail)
  generalize w.alloc _ = w3 at *
  have B3 := (Below.refl w3.heap.size w3).drew
  have HB5 := Lib.hid ((B3.block _ (Array.getElem?_eq_some_iff.1 HB.out).1).trans HB.out)
  have HQ5 := Lib.hid ((B3.block _ (Array.getElem?_eq_some_iff.1 HQ.out).1).trans HQ.out)
  have HG5 := Lib.hid (HG.out.trans (B3.mono HG.out.size))
  clear HB HQ HG B3
  refine wp_region_noPanic ?_
  refine wp_region_held_drew (S := fun W : World => W.heap[w.heap.size]? = some (.cells #[.int .u32 (b : Int), .int .u8 (m : Int)] 32) ∧ W.heap[g]? = some (.cells #[.pointer pv, .int .i64 (c : Int)] 28 (0, 0))) (by kernel_rfl) ⟨HB5.out, HQ5.out⟩ (fun hHeld => ?_)
  generalize w3.drew = wd5 at *
  refine wpAnyH_take (i := 0) (oi := { dst := some 10, op := Op.move (Operand.tmp 0), type := 25, pos := "trie.go:45", after := #[], guard := none }) (v := .pointer (some ⟨g, 0, none⟩)) rfl (by kernel_rfl) (by kernel_rfl) (by kernel_rfl) (fun _ _ _ h => h) (Or.inl ⟨by rfl, fun w hSw => by go_simp⟩) (by assumption) ?_
  try simp only [Act.put, List.setIfInBounds_toArray, List.set_cons_zero, List.set_cons_succ]
  refine wpAnyH_take (i := 1) (oi := { dst := some 11, op := Op.nilCheck (Operand.tmp 10), type := 0, pos := "trie.go:45", after := #[{ on := 0, ground := Ground.data }], guard := none }) (v := .pointer (some ⟨g, 0, none⟩)) rfl (by kernel_rfl) (by kernel_rfl) (by kernel_rfl) (fun _ _ _ h => h) (Or.inl ⟨by rfl, fun w hSw => by go_simp⟩) (by assumption) ?_
  try simp only [Act.put, List.setIfInBounds_toArray, List.set_cons_zero, List.set_cons_succ]
  refine wpAnyH_take (i := 2) (oi := { dst := some 12, op := Op.fieldAddr 28 (Operand.tmp 11) 0, type := 0, pos := "trie.go:45", after := #[{ on := 1, ground := Ground.data }], guard := none }) (v := .pointer (some ⟨g, 0, none⟩)) rfl (by kernel_rfl) (by kernel_rfl) (by kernel_rfl) (fun _ _ _ h => h) (Or.inl ⟨by rfl, fun w hSw => by go_simp⟩) (by assumption) ?_
  try simp only [Act.put, List.setIfInBounds_toArray, List.set_cons_zero, List.set_cons_succ]
  refine wpAnyH_take (i := 3) (oi := { dst := some 13, op := Op.load 26 (Operand.tmp 12), type := 26, pos := "trie.go:45", after := #[{ on := 2, ground := Ground.data }], guard := none }) (v := .pointer pv) rfl (by kernel_rfl) (by kernel_rfl) (by kernel_rfl) (fun _ _ _ h => h) (Or.inl ⟨by rfl, fun w hSw => by obtain ⟨k0, k1⟩ := row2 hSw.2; go_simp⟩) (by assumption) ?_
  try simp only [Act.put, List.setIfInBounds_toArray, List.set_cons_zero, List.set_cons_succ]
  refine wpAnyH_take (i := 4) (oi := { dst := some 14, op := Op.load 32 (Operand.tmp 3), type := 32, pos := "trie.go:45", after := #[], guard := none }) (v := .agg #[.int .u32 (b : Int), .int .u8 (m : Int)]) rfl (by kernel_rfl) (by kernel_rfl) (by kernel_rfl) (fun _ _ _ h => h) (Or.inl ⟨by rfl, fun w hSw => by obtain ⟨y0, y1⟩ := row2 hSw.1; go_simp⟩) (by assumption) ?_
  try simp only [Act.put, List.setIfInBounds_toArray, List.set_cons_zero, List.set_cons_succ]
  refine wpAnyH_ready (rs := [5]) (by kernel_rfl) (by simp) ?_
  refine AllReadyH.cons (o := { dst := some 15, op := Op.call { callee := Callee.value (Operand.func 24), args := #[Operand.tmp 13, Operand.tmp 14], argTypes := #[26, 32] }, type := 59, pos := "trie.go:45", after := #[{ on := 3, ground := Ground.data }, { on := 4, ground := Ground.data }], guard := none }) rfl (fun K hK => ?_) AllReadyH.nil
  go_simp
  with_reducible refine (hP wd5 _ bs (HT.out.below HG5.out) (List.nodup_cons.1 HND.out).2).mono ?_
  rintro e w10 ⟨rfl, A10, G10⟩
  have HQ10 := (G10.block g (Nat.lt_of_lt_of_le hgs HG5.out.size) hgb).trans HQ5.out
  have HB10 := (G10.block _ (Array.getElem?_eq_some_iff.1 HB5.out).1 hxb).trans HB5.out
  refine hK.out _ _ (⟨HB10, HQ10⟩) (fun hHeld => ?_)
  clear hK K
  try simp only [Act.put, List.setIfInBounds_toArray, List.set_cons_zero, List.set_cons_succ]
  refine wpAnyH_take (i := 6) (oi := { dst := some 9, op := Op.move (Operand.tmp 15), type := 59, pos := "trie.go:45", after := #[{ on := 5, ground := Ground.data }], guard := none }) (v := .tuple #[.pointer pv, .bool false]) rfl (by kernel_rfl) (by kernel_rfl) (by kernel_rfl) (fun _ _ _ h => h) (Or.inl ⟨by rfl, fun w hSw => by go_simp⟩) (by assumption) ?_
  try simp only [Act.put, List.setIfInBounds_toArray, List.set_cons_zero, List.set_cons_succ]
  refine wpAnyH_take (i := 7) (oi := { dst := some 16, op := Op.extract (Operand.tmp 9) 0, type := 26, pos := "trie.go:45", after := #[{ on := 6, ground := Ground.data }], guard := none }) (v := .pointer pv) rfl (by kernel_rfl) (by kernel_rfl) (by kernel_rfl) (fun _ _ _ h => h) (Or.inl ⟨by rfl, fun w hSw => by go_simp⟩) (by assumption) ?_
  try simp only [Act.put, List.setIfInBounds_toArray, List.set_cons_zero, List.set_cons_succ]
  refine wpAnyH_take (i := 8) (oi := { dst := some 17, op := Op.extract (Operand.tmp 9) 1, type := 4, pos := "trie.go:45", after := #[{ on := 6, ground := Ground.data }, { on := 9, ground := Ground.gcOnly Departure.lateStores }], guard := none }) (v := .bool false) rfl (by kernel_rfl) (by kernel_rfl) (by kernel_rfl) (fun _ _ _ h => h) (Or.inl ⟨by rfl, fun w hSw => by go_simp⟩) (by assumption) ?_
  try simp only [Act.put, List.setIfInBounds_toArray, List.set_cons_zero, List.set_cons_succ]
  refine wpAnyH_take (i := 9) (oi := { dst := some 5, op := Op.assign (Operand.tmp 16), type := 26, pos := "trie.go:45", after := #[{ on := 7, ground := Ground.data }, { on := 5, ground := Ground.chain }, { on := 0, ground := Ground.phase }, { on := 1, ground := Ground.phase }, { on := 2, ground := Ground.phase }, { on := 3, ground := Ground.phase }, { on := 4, ground := Ground.phase }, { on := 5, ground := Ground.phase }, { on := 6, ground := Ground.phase }, { on := 7, ground := Ground.phase }, { on := 8, ground := Ground.textOnly Departure.lateStores }], guard := none }) (v := .pointer pv) rfl (by kernel_rfl) (by kernel_rfl) (by kernel_rfl) (fun _ _ _ h => h) (Or.inl ⟨by rfl, fun w hSw => by go_simp⟩) (by assumption) ?_
  try simp only [Act.put, List.setIfInBounds_toArray, List.set_cons_zero, List.set_cons_succ]
  refine wpAnyH_take (i := 10) (oi := { dst := some 6, op := Op.assign (Operand.tmp 17), type := 4, pos := "trie.go:45", after := #[{ on := 8, ground := Ground.data }, { on := 9, ground := Ground.chain }, { on := 0, ground := Ground.phase }, { on := 1, ground := Ground.phase }, { on := 2, ground := Ground.phase }, { on := 3, ground := Ground.phase }, { on := 4, ground := Ground.phase }, { on := 5, ground := Ground.phase }, { on := 6, ground := Ground.phase }, { on := 7, ground := Ground.phase }, { on := 8, ground := Ground.phase }, { on := 9, ground := Ground.phase }], guard := none }) (v := .bool false) rfl (by kernel_rfl) (by kernel_rfl) (by kernel_rfl) (fun _ _ _ h => h) (Or.inl ⟨by rfl, fun w hSw => by go_simp⟩) (by assumption) ?_
  try simp only [Act.put, List.setIfInBounds_toArray, List.set_cons_zero, List.set_cons_succ]
  refine wpAnyH_done (by kernel_rfl) ?_ _
  try unfold NoPanic
  have HJ : Hid (TrAt w10 g t c bs ∧ Grew w w10 (g :: bs)) := Lib.hid ⟨⟨⟨_, HQ10, A10⟩, HND.out⟩, (below_grew HG5.out _).trans G10 fun b hb => .inl (by simp [hb])⟩
  clear HQ10 hHeld
  go_wp2
  go_ret
  exact ⟨rfl, HJ.out⟩

def RL (rs : List R) : List Value := rs.flatMap fun r : R => r.cl.toList
theorem flat_set : ∀ (rs : List R) (k : Nat) (_ : k < rs.length) (r : R), ((((( RL rs).set (k * 5) (.int .u32 (r.a : Int))).set (k * 5 + 1) (.int .u8 (r.n : Int))).set (k * 5 + 2) (.int .i64 r.via)).set (k * 5 + 3) (.int .u16 r.mt)).set (k * 5 + 4) (.int .u16 r.sq) = RL (rs.set k r)
  | c :: cs, 0, _, r => by simp [RL, R.cl]
  | c :: cs, k + 1, hk, r => by
    have ih := flat_set cs k (by simpa using hk) r
    have e : RL (c :: cs) = c.cl.toList ++ RL cs := by simp [RL]
    have e2 : RL ((c :: cs).set (k + 1) r) = c.cl.toList ++ RL (cs.set k r) := by simp [RL]
    have hl : c.cl.toList.length = 5 := by simp [R.cl]
    have st : ∀ (l : List Value) (i : Nat) (v : Value), (c.cl.toList ++ l).set ((k + 1) * 5 + i) v = c.cl.toList ++ l.set (k * 5 + i) v := fun l i v => by
      rw [List.set_append_right _ _ (by rw [hl]; omega), hl, show (k + 1) * 5 + i - 5 = k * 5 + i by omega]
    have st0 := fun l v => st l 0 v
    simp only [Nat.add_zero] at st0
    rw [e, e2, st0, st, st, st, st, ih]
/-- A route written over in a slice of the call's own. -/
theorem RtOwn.set {w : World} {B g n cap k : Nat} {rs : List R} (h : RtOwn w B (.slice (some ⟨g, 0, none⟩) n cap) rs) (hk : k < rs.length) (r : R) :
    RtOwn (((((w.setCell ⟨g, k * 5, none⟩ (.int .u32 (r.a : Int))).setCell ⟨g, k * 5 + 1, none⟩ (.int .u8 (r.n : Int))).setCell ⟨g, k * 5 + 2, none⟩ (.int .i64 r.via)).setCell ⟨g, k * 5 + 3, none⟩ (.int .u16 r.mt)).setCell ⟨g, k * 5 + 4, none⟩ (.int .u16 r.sq)) B (.slice (some ⟨g, 0, none⟩) n cap) (rs.set k r) := by
  have h0 := h.1
  rcases h.2 with ⟨e, _⟩ | ⟨g', cap', cur, e, hB, hg, hn, hc, hs, ht⟩
  · cases e
  · simp only [Value.slice.injEq, Option.some.injEq, Addr.mk.injEq, and_true] at e
    obtain ⟨rfl, e2, rfl⟩ := e
    have q0 := heap_setCell_same w g (k * 5) _ 39 (.int .u32 (r.a : Int)) hg
    have q1 := heap_setCell_same _ g (k * 5 + 1) _ 39 (.int .u8 (r.n : Int)) q0
    have q2 := heap_setCell_same _ g (k * 5 + 2) _ 39 (.int .i64 r.via) q1
    have q3 := heap_setCell_same _ g (k * 5 + 3) _ 39 (.int .u16 r.mt) q2
    have q4 := heap_setCell_same _ g (k * 5 + 4) _ 39 (.int .u16 r.sq) q3
    clear q0 q1 q2 q3
    generalize World.setCell (World.setCell (World.setCell (World.setCell (World.setCell w _ _) _ _) _ _) _ _) _ _ = W' at q4 ⊢
    unfold RtOwn
    rw [List.length_set]
    refine ⟨?_, .inr ⟨g, cap, _, by rw [e2], hB, q4, hn, hc, by simpa using hs, ?_⟩⟩
    · rw [show ((rs.set k r).flatMap fun r : R => r.cl.toList) = RL (rs.set k r) from rfl, ← flat_set rs k hk r]
      simp only [List.length_set]
      exact h0
    · rw [show ((rs.set k r).flatMap fun r : R => r.cl.toList) = RL (rs.set k r) from rfl, ← flat_set rs k hk r]
      simp only [Array.toList_setIfInBounds, List.take_set]
      rw [ht]
      rfl

/-- The longest of a list that have b. -/
def LongL (rs : List R) (b : Nat) (o : Option R) : Prop := (o = none ∧ ∀ r ∈ rs, ¬ alike r.a b r.n = true) ∨ ∃ y, o = some y ∧ y ∈ rs ∧ alike y.a b y.n = true ∧ ∀ z ∈ rs, alike z.a b z.n = true → z.n ≤ y.n
def LA (rs : List R) (b k : Nat) (f : Int) : Prop := (f = -1 ∧ ∀ j, j < k → ∀ z, rs[j]? = some z → ¬ alike z.a b z.n = true) ∨ ∃ j y, f = (j : Nat) ∧ j < k ∧ rs[j]? = some y ∧ alike y.a b y.n = true ∧ ∀ i, i < k → ∀ z, rs[i]? = some z → alike z.a b z.n = true → z.n ≤ y.n
theorem LA.skip {rs : List R} {b k : Nat} {f : Int} {z : R} (h : LA rs b k f) (hz : rs[k]? = some z) (hn : alike z.a b z.n = true → ∃ j y, f = (j : Nat) ∧ rs[j]? = some y ∧ z.n ≤ y.n) : LA rs b (k + 1) f := by
  rcases h with ⟨rfl, h⟩ | ⟨j, y, rfl, h1, h2, h3, h4⟩
  · refine .inl ⟨rfl, fun j hj z' hz' e => ?_⟩
    by_cases hjk : j < k
    · exact h j hjk z' hz' e
    · obtain rfl : j = k := by omega
      rw [hz] at hz'
      injection hz' with hz'
      subst hz'
      obtain ⟨j', _, e1, _⟩ := hn e
      omega
  · refine .inr ⟨j, y, rfl, by omega, h2, h3, fun i hi z' hz' e => ?_⟩
    by_cases hik : i < k
    · exact h4 i hik z' hz' e
    · obtain rfl : i = k := by omega
      rw [hz] at hz'
      injection hz' with hz'
      subst hz'
      obtain ⟨j', y', e1, e2, e3⟩ := hn e
      obtain rfl : j = j' := by omega
      rw [h2] at e2
      injection e2 with e2
      rw [e2]; exact e3
theorem LA.new {rs : List R} {b k : Nat} {f : Int} {z : R} (h : LA rs b k f) (hz : rs[k]? = some z) (ha : alike z.a b z.n = true) (hn : f = -1 ∨ ∃ j y, f = (j : Nat) ∧ rs[j]? = some y ∧ y.n < z.n) : LA rs b (k + 1) (k : Nat) := by
  refine .inr ⟨k, z, rfl, by omega, hz, ha, fun i hi z' hz' e => ?_⟩
  by_cases hik : i < k
  · rcases h with ⟨_, h⟩ | ⟨j, y, hf, h1, h2, h3, h4⟩
    · exact absurd e (h i hik z' hz')
    · have := h4 i hik z' hz' e
      rcases hn with hn | ⟨j', y', e1, e2, e3⟩
      · omega
      · obtain rfl : j = j' := by omega
        rw [h2] at e2
        injection e2 with e2
        rw [← e2] at e3
        omega
  · obtain rfl : i = k := by omega
    rw [hz] at hz'
    injection hz' with hz'
    rw [hz']; exact Nat.le_refl _
set_option maxRecDepth 8000 in
set_option maxHeartbeats 8000000 in
theorem longest_any (w : World) (A : Option Addr) (n cp : Nat) (rs : List R) (hn : n = rs.length) (hl : n ≤ 100000) (h : RtSl w A rs) (hok : ∀ r ∈ rs, r.Ok) (b : Nat) (hb : b < 4294967296) :
    Calls Try.prog 15 #[.slice A n cp, .int .u32 (b : Int)] w fun e w' => ∃ o, e = .returned (.tuple #[.agg (ocl o), .bool o.isSome]) ∧ LongL rs b o ∧ Below w.heap.size w w' := by
  have HN := Lib.hid hn
  have HS := Lib.hid h
  have HOK := Lib.hid hok
  have B0 := (Below.refl w.heap.size w).alloc (Nat.le_refl _) (.cells #[.int .u32 0, .int .u8 0, .int .i64 0, .int .u16 0, .int .u16 0] 39)
  have HO : Hid (Below w.heap.size w (w.alloc (.cells #[.int .u32 0, .int .u8 0, .int .i64 0, .int .u16 0, .int .u16 0] 39)) ∧ (w.alloc (.cells #[.int .u32 0, .int .u8 0, .int .i64 0, .int .u16 0, .int .u16 0] 39)).heap[w.heap.size]? = some (.cells #[.int .u32 0, .int .u8 0, .int .i64 0, .int .u16 0, .int .u16 0] 39 (0, 0))) := Lib.hid ⟨B0, heap_alloc_new _ _⟩
  clear hn h hok B0
  go_enter Try.func15, Try.ntmps15
  go_wp2
  go_loopw [6, 7] (fun v6 v7 wr => ∃ k : Nat, k ≤ n ∧ v7 = .int .i64 k ∧ ∃ f : Int, v6 = .int .i64 f ∧ Hid (LA rs b k f) ∧ Hid (Below w.heap.size w wr ∧ wr.heap[w.heap.size]? = some (.cells #[.int .u32 0, .int .u8 0, .int .i64 0, .int .u16 0, .int .u16 0] 39 (0, 0)))) (fun _ v7 _ => n - (intOf v7).toNat)
  case atStart => exact ⟨0, by omega, rfl, -1, rfl, Lib.hid (.inl ⟨rfl, fun j hj => by omega⟩), HO⟩
  case round =>
    obtain ⟨k, hk, rfl, f, rfl, HF, HR⟩ := hrel
    clear HO
    by_cases hlt : k < n
    · have hkr : Hid (k < rs.length) := Lib.hid (by rw [← HN.out]; exact hlt)
      obtain ⟨b0, o0, ea, hb0, hc⟩ := HS.out k hkr.out
      subst ea
      obtain ⟨z, hz⟩ : ∃ z, z = rs[k]'(hkr.out) := ⟨_, rfl⟩
      rw [← hz] at hc
      have hzk : rs[k]? = some z := by rw [List.getElem?_eq_getElem hkr.out, hz]
      have hzo : z.Ok := by rw [hz]; exact HOK.out _ (List.getElem_mem _)
      have c26 := fun W => rhas_any z.a z.n b hzo.1 hzo.2.1 hb W
      have HZK := Lib.hid hzk
      have HC := Lib.hid (And.intro (hc.keep (HR.out.1.block b0 hb0)) (Nat.lt_of_lt_of_le hb0 HR.out.1.size))
      have hk9 : (k : Int) < n := by omega
      have hk8 : ¬ n ≤ k := by omega
      clear hz hc hzk hzo
      go_upto_region 5 with (fail)
      cases hal : alike z.a b z.n
      · rw [hal] at c26
        have HSK := Lib.hid (HF.out.skip HZK.out (fun e => by rw [hal] at e; cases e))
        clear hal
        refine wp_region_noPanic ?_
        refine wp_region_held_drew (S := fun W : World => Below wr.heap.size wr W) (by kernel_rfl) ((Below.refl _ _).drew) (fun hHeld => ?_)
        generalize wr.drew = wd at *
        refine wpAnyH_take (i := 0) (oi := { dst := some 14, op := Op.move (Operand.tmp 0), type := 29, pos := "law.go:48", after := #[], guard := none }) (v := .slice (some ⟨b0, o0, none⟩) n cp) rfl (by kernel_rfl) (by kernel_rfl) (by kernel_rfl) (fun _ _ _ h => h) (Or.inl ⟨by rfl, fun w hSw => by go_simp⟩) (by assumption) ?_
        try simp only [Act.put, List.setIfInBounds_toArray, List.set_cons_zero, List.set_cons_succ]
        refine wpAnyH_take (i := 1) (oi := { dst := some 15, op := Op.move (Operand.tmp 7), type := 3, pos := "law.go:48", after := #[], guard := none }) (v := .int .i64 (k : Int)) rfl (by kernel_rfl) (by kernel_rfl) (by kernel_rfl) (fun _ _ _ h => h) (Or.inl ⟨by rfl, fun w hSw => by go_simp⟩) (by assumption) ?_
        try simp only [Act.put, List.setIfInBounds_toArray, List.set_cons_zero, List.set_cons_succ]
        refine wpAnyH_take (i := 2) (oi := { dst := some 16, op := Op.indexAddr 29 (Operand.tmp 14) (Operand.tmp 15), type := 0, pos := "law.go:48", after := #[{ on := 0, ground := Ground.data }, { on := 1, ground := Ground.data }], guard := none }) (v := .pointer (some ⟨b0, o0 + k * 5, none⟩)) rfl (by kernel_rfl) (by kernel_rfl) (by kernel_rfl) (fun _ _ _ h => h) (Or.inl ⟨by rfl, fun w hSw => by go_simp⟩) (by assumption) ?_
        try simp only [Act.put, List.setIfInBounds_toArray, List.set_cons_zero, List.set_cons_succ]
        refine wpAnyH_take (i := 3) (oi := { dst := some 17, op := Op.fieldAddr 39 (Operand.tmp 16) 0, type := 0, pos := "law.go:48", after := #[{ on := 2, ground := Ground.data }], guard := none }) (v := .pointer (some ⟨b0, o0 + k * 5, none⟩)) rfl (by kernel_rfl) (by kernel_rfl) (by kernel_rfl) (fun _ _ _ h => h) (Or.inl ⟨by rfl, fun w hSw => by go_simp⟩) (by assumption) ?_
        try simp only [Act.put, List.setIfInBounds_toArray, List.set_cons_zero, List.set_cons_succ]
        refine wpAnyH_take (i := 4) (oi := { dst := some 18, op := Op.load 32 (Operand.tmp 17), type := 32, pos := "law.go:48", after := #[{ on := 3, ground := Ground.data }], guard := none }) (v := .agg #[.int .u32 (z.a : Int), .int .u8 (z.n : Int)]) rfl (by kernel_rfl) (by kernel_rfl) (by kernel_rfl) (fun _ _ _ h => h) (Or.inl ⟨by rfl, fun w hSw => by obtain ⟨q0, q1, q2, q3, q4⟩ := HC.out.1.keep (hSw.block b0 HC.out.2); go_simp⟩) (by assumption) ?_
        try simp only [Act.put, List.setIfInBounds_toArray, List.set_cons_zero, List.set_cons_succ]
        refine wpAnyH_take (i := 5) (oi := { dst := some 19, op := Op.move (Operand.tmp 1), type := 30, pos := "law.go:48", after := #[], guard := none }) (v := .int .u32 (b : Int)) rfl (by kernel_rfl) (by kernel_rfl) (by kernel_rfl) (fun _ _ _ h => h) (Or.inl ⟨by rfl, fun w hSw => by go_simp⟩) (by assumption) ?_
        try simp only [Act.put, List.setIfInBounds_toArray, List.set_cons_zero, List.set_cons_succ]
        refine wpAnyH_ready (rs := [6]) (by kernel_rfl) (by simp) ?_
        refine AllReadyH.cons (o := { dst := some 20, op := Op.call { callee := Callee.value (Operand.func 26), args := #[Operand.tmp 18, Operand.tmp 19], argTypes := #[32, 30] }, type := 4, pos := "law.go:48", after := #[{ on := 4, ground := Ground.data }, { on := 5, ground := Ground.data }], guard := none }) rfl (fun K hK => ?_) AllReadyH.nil
        go_simp
        with_reducible refine (c26 _).mono ?_
        rintro e w5 ⟨rfl, B5⟩
        refine hK.out _ _ (hHeld.trans (B5.mono hHeld.size)) (fun hHeld => ?_)
        clear hK K
        try simp only [Act.put, List.setIfInBounds_toArray, List.set_cons_zero, List.set_cons_succ]
        refine wpAnyH_take (i := 7) (oi := { dst := some 21, op := Op.move (Operand.tmp 20), type := 4, pos := "law.go:48", after := #[{ on := 6, ground := Ground.data }, { on := 6, ground := Ground.chain }], guard := none }) (v := .bool false) rfl (by kernel_rfl) (by kernel_rfl) (by kernel_rfl) (fun _ _ _ h => h) (Or.inl ⟨by rfl, fun w hSw => by go_simp⟩) (by assumption) ?_
        try simp only [Act.put, List.setIfInBounds_toArray, List.set_cons_zero, List.set_cons_succ]
        refine wpAnyH_take (i := 8) (oi := { dst := some 22, op := Op.move (Operand.tmp 6), type := 3, pos := "law.go:48", after := #[{ on := 7, ground := Ground.guard }], guard := some (7, true) }) (v := undef) rfl (by kernel_rfl) (by kernel_rfl) (by kernel_rfl) (fun _ _ _ h => h) (Or.inr ⟨by rfl, rfl⟩) (by assumption) ?_
        try simp only [Act.put, List.setIfInBounds_toArray, List.set_cons_zero, List.set_cons_succ]
        refine wpAnyH_take (i := 9) (oi := { dst := some 23, op := Op.binOp BinOp.lss 3 (Operand.tmp 22) (Operand.const (Value.int IntKind.i64 0)) 3, type := 4, pos := "law.go:48", after := #[{ on := 8, ground := Ground.data }, { on := 7, ground := Ground.guard }], guard := some (7, true) }) (v := undef) rfl (by kernel_rfl) (by kernel_rfl) (by kernel_rfl) (fun _ _ _ h => h) (Or.inr ⟨by rfl, rfl⟩) (by assumption) ?_
        try simp only [Act.put, List.setIfInBounds_toArray, List.set_cons_zero, List.set_cons_succ]
        refine wpAnyH_take (i := 10) (oi := { dst := some 24, op := Op.move (Operand.tmp 23), type := 4, pos := "law.go:48", after := #[{ on := 9, ground := Ground.data }, { on := 7, ground := Ground.chain }, { on := 7, ground := Ground.guard }], guard := some (7, true) }) (v := undef) rfl (by kernel_rfl) (by kernel_rfl) (by kernel_rfl) (fun _ _ _ h => h) (Or.inr ⟨by rfl, rfl⟩) (by assumption) ?_
        try simp only [Act.put, List.setIfInBounds_toArray, List.set_cons_zero, List.set_cons_succ]
        refine wpAnyH_take (i := 11) (oi := { dst := some 25, op := Op.move (Operand.tmp 0), type := 29, pos := "law.go:48", after := #[{ on := 10, ground := Ground.guard }], guard := some (10, false) }) (v := undef) rfl (by kernel_rfl) (by kernel_rfl) (by kernel_rfl) (fun _ _ _ h => h) (Or.inr ⟨by rfl, rfl⟩) (by assumption) ?_
        try simp only [Act.put, List.setIfInBounds_toArray, List.set_cons_zero, List.set_cons_succ]
        refine wpAnyH_take (i := 12) (oi := { dst := some 26, op := Op.move (Operand.tmp 7), type := 3, pos := "law.go:48", after := #[{ on := 10, ground := Ground.guard }], guard := some (10, false) }) (v := undef) rfl (by kernel_rfl) (by kernel_rfl) (by kernel_rfl) (fun _ _ _ h => h) (Or.inr ⟨by rfl, rfl⟩) (by assumption) ?_
        try simp only [Act.put, List.setIfInBounds_toArray, List.set_cons_zero, List.set_cons_succ]
        refine wpAnyH_take (i := 13) (oi := { dst := some 27, op := Op.indexAddr 29 (Operand.tmp 25) (Operand.tmp 26), type := 0, pos := "law.go:48", after := #[{ on := 11, ground := Ground.data }, { on := 12, ground := Ground.data }, { on := 10, ground := Ground.guard }], guard := some (10, false) }) (v := undef) rfl (by kernel_rfl) (by kernel_rfl) (by kernel_rfl) (fun _ _ _ h => h) (Or.inr ⟨by rfl, rfl⟩) (by assumption) ?_
        try simp only [Act.put, List.setIfInBounds_toArray, List.set_cons_zero, List.set_cons_succ]
        refine wpAnyH_take (i := 14) (oi := { dst := some 28, op := Op.fieldAddr 39 (Operand.tmp 27) 0, type := 0, pos := "law.go:48", after := #[{ on := 13, ground := Ground.data }, { on := 10, ground := Ground.guard }], guard := some (10, false) }) (v := undef) rfl (by kernel_rfl) (by kernel_rfl) (by kernel_rfl) (fun _ _ _ h => h) (Or.inr ⟨by rfl, rfl⟩) (by assumption) ?_
        try simp only [Act.put, List.setIfInBounds_toArray, List.set_cons_zero, List.set_cons_succ]
        refine wpAnyH_take (i := 15) (oi := { dst := some 29, op := Op.fieldAddr 32 (Operand.tmp 28) 1, type := 0, pos := "law.go:48", after := #[{ on := 14, ground := Ground.data }, { on := 10, ground := Ground.guard }], guard := some (10, false) }) (v := undef) rfl (by kernel_rfl) (by kernel_rfl) (by kernel_rfl) (fun _ _ _ h => h) (Or.inr ⟨by rfl, rfl⟩) (by assumption) ?_
        try simp only [Act.put, List.setIfInBounds_toArray, List.set_cons_zero, List.set_cons_succ]
        refine wpAnyH_take (i := 16) (oi := { dst := some 30, op := Op.load 5 (Operand.tmp 29), type := 5, pos := "law.go:48", after := #[{ on := 15, ground := Ground.data }, { on := 10, ground := Ground.guard }], guard := some (10, false) }) (v := undef) rfl (by kernel_rfl) (by kernel_rfl) (by kernel_rfl) (fun _ _ _ h => h) (Or.inr ⟨by rfl, rfl⟩) (by assumption) ?_
        try simp only [Act.put, List.setIfInBounds_toArray, List.set_cons_zero, List.set_cons_succ]
        refine wpAnyH_take (i := 17) (oi := { dst := some 31, op := Op.move (Operand.tmp 0), type := 29, pos := "law.go:48", after := #[{ on := 10, ground := Ground.guard }], guard := some (10, false) }) (v := undef) rfl (by kernel_rfl) (by kernel_rfl) (by kernel_rfl) (fun _ _ _ h => h) (Or.inr ⟨by rfl, rfl⟩) (by assumption) ?_
        try simp only [Act.put, List.setIfInBounds_toArray, List.set_cons_zero, List.set_cons_succ]
        refine wpAnyH_take (i := 18) (oi := { dst := some 32, op := Op.move (Operand.tmp 6), type := 3, pos := "law.go:48", after := #[{ on := 10, ground := Ground.guard }], guard := some (10, false) }) (v := undef) rfl (by kernel_rfl) (by kernel_rfl) (by kernel_rfl) (fun _ _ _ h => h) (Or.inr ⟨by rfl, rfl⟩) (by assumption) ?_
        try simp only [Act.put, List.setIfInBounds_toArray, List.set_cons_zero, List.set_cons_succ]
        refine wpAnyH_take (i := 19) (oi := { dst := some 33, op := Op.indexAddr 29 (Operand.tmp 31) (Operand.tmp 32), type := 0, pos := "law.go:48", after := #[{ on := 17, ground := Ground.data }, { on := 18, ground := Ground.data }, { on := 10, ground := Ground.guard }], guard := some (10, false) }) (v := undef) rfl (by kernel_rfl) (by kernel_rfl) (by kernel_rfl) (fun _ _ _ h => h) (Or.inr ⟨by rfl, rfl⟩) (by assumption) ?_
        try simp only [Act.put, List.setIfInBounds_toArray, List.set_cons_zero, List.set_cons_succ]
        refine wpAnyH_take (i := 20) (oi := { dst := some 34, op := Op.fieldAddr 39 (Operand.tmp 33) 0, type := 0, pos := "law.go:48", after := #[{ on := 19, ground := Ground.data }, { on := 10, ground := Ground.guard }], guard := some (10, false) }) (v := undef) rfl (by kernel_rfl) (by kernel_rfl) (by kernel_rfl) (fun _ _ _ h => h) (Or.inr ⟨by rfl, rfl⟩) (by assumption) ?_
        try simp only [Act.put, List.setIfInBounds_toArray, List.set_cons_zero, List.set_cons_succ]
        refine wpAnyH_take (i := 21) (oi := { dst := some 35, op := Op.fieldAddr 32 (Operand.tmp 34) 1, type := 0, pos := "law.go:48", after := #[{ on := 20, ground := Ground.data }, { on := 10, ground := Ground.guard }], guard := some (10, false) }) (v := undef) rfl (by kernel_rfl) (by kernel_rfl) (by kernel_rfl) (fun _ _ _ h => h) (Or.inr ⟨by rfl, rfl⟩) (by assumption) ?_
        try simp only [Act.put, List.setIfInBounds_toArray, List.set_cons_zero, List.set_cons_succ]
        refine wpAnyH_take (i := 22) (oi := { dst := some 36, op := Op.load 5 (Operand.tmp 35), type := 5, pos := "law.go:48", after := #[{ on := 21, ground := Ground.data }, { on := 10, ground := Ground.guard }], guard := some (10, false) }) (v := undef) rfl (by kernel_rfl) (by kernel_rfl) (by kernel_rfl) (fun _ _ _ h => h) (Or.inr ⟨by rfl, rfl⟩) (by assumption) ?_
        try simp only [Act.put, List.setIfInBounds_toArray, List.set_cons_zero, List.set_cons_succ]
        refine wpAnyH_take (i := 23) (oi := { dst := some 37, op := Op.binOp BinOp.gtr 5 (Operand.tmp 30) (Operand.tmp 36) 5, type := 4, pos := "law.go:48", after := #[{ on := 16, ground := Ground.data }, { on := 22, ground := Ground.data }, { on := 10, ground := Ground.guard }], guard := some (10, false) }) (v := undef) rfl (by kernel_rfl) (by kernel_rfl) (by kernel_rfl) (fun _ _ _ h => h) (Or.inr ⟨by rfl, rfl⟩) (by assumption) ?_
        try simp only [Act.put, List.setIfInBounds_toArray, List.set_cons_zero, List.set_cons_succ]
        refine wpAnyH_take (i := 24) (oi := { dst := some 38, op := Op.pick (Operand.tmp 24) (Operand.const (Value.bool true)) (Operand.tmp 37), type := 4, pos := "law.go:48", after := #[{ on := 10, ground := Ground.data }, { on := 23, ground := Ground.data }, { on := 7, ground := Ground.guard }], guard := some (7, true) }) (v := undef) rfl (by kernel_rfl) (by kernel_rfl) (by kernel_rfl) (fun _ _ _ h => h) (Or.inr ⟨by rfl, rfl⟩) (by assumption) ?_
        try simp only [Act.put, List.setIfInBounds_toArray, List.set_cons_zero, List.set_cons_succ]
        refine wpAnyH_take (i := 25) (oi := { dst := some 39, op := Op.pick (Operand.tmp 21) (Operand.tmp 38) (Operand.const (Value.bool false)), type := 4, pos := "law.go:48", after := #[{ on := 7, ground := Ground.data }, { on := 24, ground := Ground.data }], guard := none }) (v := .bool false) rfl (by kernel_rfl) (by kernel_rfl) (by kernel_rfl) (fun _ _ _ h => h) (Or.inl ⟨by rfl, fun w hSw => by go_simp⟩) (by assumption) ?_
        try simp only [Act.put, List.setIfInBounds_toArray, List.set_cons_zero, List.set_cons_succ]
        refine wpAnyH_done (by kernel_rfl) ?_ _
        try unfold NoPanic
        have HB := Lib.hid (And.intro (HR.out.1.trans (hHeld.mono HR.out.1.size)) ((hHeld.block _ (Array.getElem?_eq_some_iff.1 HR.out.2).1).trans HR.out.2))
        clear hHeld
        go_wp2
        go_roundw
        case rel => exact ⟨k + 1, by omega, by go_num, f, rfl, HSK, HB⟩
        case measure => simp [intOf]; omega
      · rw [hal] at c26
        by_cases hf0 : f < 0
        · have HNW := Lib.hid (HF.out.new HZK.out hal (.inl (by rcases HF.out with h | ⟨j, y, h, _⟩; exact h.1; omega)))
          clear hal
          refine wp_region_noPanic ?_
          refine wp_region_held_drew (S := fun W : World => Below wr.heap.size wr W) (by kernel_rfl) ((Below.refl _ _).drew) (fun hHeld => ?_)
          generalize wr.drew = wd at *
          refine wpAnyH_take (i := 0) (oi := { dst := some 14, op := Op.move (Operand.tmp 0), type := 29, pos := "law.go:48", after := #[], guard := none }) (v := .slice (some ⟨b0, o0, none⟩) n cp) rfl (by kernel_rfl) (by kernel_rfl) (by kernel_rfl) (fun _ _ _ h => h) (Or.inl ⟨by rfl, fun w hSw => by go_simp⟩) (by assumption) ?_
          try simp only [Act.put, List.setIfInBounds_toArray, List.set_cons_zero, List.set_cons_succ]
          refine wpAnyH_take (i := 1) (oi := { dst := some 15, op := Op.move (Operand.tmp 7), type := 3, pos := "law.go:48", after := #[], guard := none }) (v := .int .i64 (k : Int)) rfl (by kernel_rfl) (by kernel_rfl) (by kernel_rfl) (fun _ _ _ h => h) (Or.inl ⟨by rfl, fun w hSw => by go_simp⟩) (by assumption) ?_
          try simp only [Act.put, List.setIfInBounds_toArray, List.set_cons_zero, List.set_cons_succ]
          refine wpAnyH_take (i := 2) (oi := { dst := some 16, op := Op.indexAddr 29 (Operand.tmp 14) (Operand.tmp 15), type := 0, pos := "law.go:48", after := #[{ on := 0, ground := Ground.data }, { on := 1, ground := Ground.data }], guard := none }) (v := .pointer (some ⟨b0, o0 + k * 5, none⟩)) rfl (by kernel_rfl) (by kernel_rfl) (by kernel_rfl) (fun _ _ _ h => h) (Or.inl ⟨by rfl, fun w hSw => by go_simp⟩) (by assumption) ?_
          try simp only [Act.put, List.setIfInBounds_toArray, List.set_cons_zero, List.set_cons_succ]
          refine wpAnyH_take (i := 3) (oi := { dst := some 17, op := Op.fieldAddr 39 (Operand.tmp 16) 0, type := 0, pos := "law.go:48", after := #[{ on := 2, ground := Ground.data }], guard := none }) (v := .pointer (some ⟨b0, o0 + k * 5, none⟩)) rfl (by kernel_rfl) (by kernel_rfl) (by kernel_rfl) (fun _ _ _ h => h) (Or.inl ⟨by rfl, fun w hSw => by go_simp⟩) (by assumption) ?_
          try simp only [Act.put, List.setIfInBounds_toArray, List.set_cons_zero, List.set_cons_succ]
          refine wpAnyH_take (i := 4) (oi := { dst := some 18, op := Op.load 32 (Operand.tmp 17), type := 32, pos := "law.go:48", after := #[{ on := 3, ground := Ground.data }], guard := none }) (v := .agg #[.int .u32 (z.a : Int), .int .u8 (z.n : Int)]) rfl (by kernel_rfl) (by kernel_rfl) (by kernel_rfl) (fun _ _ _ h => h) (Or.inl ⟨by rfl, fun w hSw => by obtain ⟨q0, q1, q2, q3, q4⟩ := HC.out.1.keep (hSw.block b0 HC.out.2); go_simp⟩) (by assumption) ?_
          try simp only [Act.put, List.setIfInBounds_toArray, List.set_cons_zero, List.set_cons_succ]
          refine wpAnyH_take (i := 5) (oi := { dst := some 19, op := Op.move (Operand.tmp 1), type := 30, pos := "law.go:48", after := #[], guard := none }) (v := .int .u32 (b : Int)) rfl (by kernel_rfl) (by kernel_rfl) (by kernel_rfl) (fun _ _ _ h => h) (Or.inl ⟨by rfl, fun w hSw => by go_simp⟩) (by assumption) ?_
          try simp only [Act.put, List.setIfInBounds_toArray, List.set_cons_zero, List.set_cons_succ]
          refine wpAnyH_ready (rs := [6]) (by kernel_rfl) (by simp) ?_
          refine AllReadyH.cons (o := { dst := some 20, op := Op.call { callee := Callee.value (Operand.func 26), args := #[Operand.tmp 18, Operand.tmp 19], argTypes := #[32, 30] }, type := 4, pos := "law.go:48", after := #[{ on := 4, ground := Ground.data }, { on := 5, ground := Ground.data }], guard := none }) rfl (fun K hK => ?_) AllReadyH.nil
          go_simp
          with_reducible refine (c26 _).mono ?_
          rintro e w5 ⟨rfl, B5⟩
          refine hK.out _ _ (hHeld.trans (B5.mono hHeld.size)) (fun hHeld => ?_)
          clear hK K
          try simp only [Act.put, List.setIfInBounds_toArray, List.set_cons_zero, List.set_cons_succ]
          refine wpAnyH_take (i := 7) (oi := { dst := some 21, op := Op.move (Operand.tmp 20), type := 4, pos := "law.go:48", after := #[{ on := 6, ground := Ground.data }, { on := 6, ground := Ground.chain }], guard := none }) (v := .bool true) rfl (by kernel_rfl) (by kernel_rfl) (by kernel_rfl) (fun _ _ _ h => h) (Or.inl ⟨by rfl, fun w hSw => by go_simp⟩) (by assumption) ?_
          try simp only [Act.put, List.setIfInBounds_toArray, List.set_cons_zero, List.set_cons_succ]
          refine wpAnyH_take (i := 8) (oi := { dst := some 22, op := Op.move (Operand.tmp 6), type := 3, pos := "law.go:48", after := #[{ on := 7, ground := Ground.guard }], guard := some (7, true) }) (v := .int .i64 f) rfl (by kernel_rfl) (by kernel_rfl) (by kernel_rfl) (fun _ _ _ h => h) (Or.inl ⟨by rfl, fun w hSw => by go_simp⟩) (by assumption) ?_
          try simp only [Act.put, List.setIfInBounds_toArray, List.set_cons_zero, List.set_cons_succ]
          refine wpAnyH_take (i := 9) (oi := { dst := some 23, op := Op.binOp BinOp.lss 3 (Operand.tmp 22) (Operand.const (Value.int IntKind.i64 0)) 3, type := 4, pos := "law.go:48", after := #[{ on := 8, ground := Ground.data }, { on := 7, ground := Ground.guard }], guard := some (7, true) }) (v := .bool true) rfl (by kernel_rfl) (by kernel_rfl) (by kernel_rfl) (fun _ _ _ h => h) (Or.inl ⟨by rfl, fun w hSw => by have hz := hf0; go_simp⟩) (by assumption) ?_
          try simp only [Act.put, List.setIfInBounds_toArray, List.set_cons_zero, List.set_cons_succ]
          refine wpAnyH_take (i := 10) (oi := { dst := some 24, op := Op.move (Operand.tmp 23), type := 4, pos := "law.go:48", after := #[{ on := 9, ground := Ground.data }, { on := 7, ground := Ground.chain }, { on := 7, ground := Ground.guard }], guard := some (7, true) }) (v := .bool true) rfl (by kernel_rfl) (by kernel_rfl) (by kernel_rfl) (fun _ _ _ h => h) (Or.inl ⟨by rfl, fun w hSw => by go_simp⟩) (by assumption) ?_
          try simp only [Act.put, List.setIfInBounds_toArray, List.set_cons_zero, List.set_cons_succ]
          refine wpAnyH_take (i := 11) (oi := { dst := some 25, op := Op.move (Operand.tmp 0), type := 29, pos := "law.go:48", after := #[{ on := 10, ground := Ground.guard }], guard := some (10, false) }) (v := undef) rfl (by kernel_rfl) (by kernel_rfl) (by kernel_rfl) (fun _ _ _ h => h) (Or.inr ⟨by rfl, rfl⟩) (by assumption) ?_
          try simp only [Act.put, List.setIfInBounds_toArray, List.set_cons_zero, List.set_cons_succ]
          refine wpAnyH_take (i := 12) (oi := { dst := some 26, op := Op.move (Operand.tmp 7), type := 3, pos := "law.go:48", after := #[{ on := 10, ground := Ground.guard }], guard := some (10, false) }) (v := undef) rfl (by kernel_rfl) (by kernel_rfl) (by kernel_rfl) (fun _ _ _ h => h) (Or.inr ⟨by rfl, rfl⟩) (by assumption) ?_
          try simp only [Act.put, List.setIfInBounds_toArray, List.set_cons_zero, List.set_cons_succ]
          refine wpAnyH_take (i := 13) (oi := { dst := some 27, op := Op.indexAddr 29 (Operand.tmp 25) (Operand.tmp 26), type := 0, pos := "law.go:48", after := #[{ on := 11, ground := Ground.data }, { on := 12, ground := Ground.data }, { on := 10, ground := Ground.guard }], guard := some (10, false) }) (v := undef) rfl (by kernel_rfl) (by kernel_rfl) (by kernel_rfl) (fun _ _ _ h => h) (Or.inr ⟨by rfl, rfl⟩) (by assumption) ?_
          try simp only [Act.put, List.setIfInBounds_toArray, List.set_cons_zero, List.set_cons_succ]
          refine wpAnyH_take (i := 14) (oi := { dst := some 28, op := Op.fieldAddr 39 (Operand.tmp 27) 0, type := 0, pos := "law.go:48", after := #[{ on := 13, ground := Ground.data }, { on := 10, ground := Ground.guard }], guard := some (10, false) }) (v := undef) rfl (by kernel_rfl) (by kernel_rfl) (by kernel_rfl) (fun _ _ _ h => h) (Or.inr ⟨by rfl, rfl⟩) (by assumption) ?_
          try simp only [Act.put, List.setIfInBounds_toArray, List.set_cons_zero, List.set_cons_succ]
          refine wpAnyH_take (i := 15) (oi := { dst := some 29, op := Op.fieldAddr 32 (Operand.tmp 28) 1, type := 0, pos := "law.go:48", after := #[{ on := 14, ground := Ground.data }, { on := 10, ground := Ground.guard }], guard := some (10, false) }) (v := undef) rfl (by kernel_rfl) (by kernel_rfl) (by kernel_rfl) (fun _ _ _ h => h) (Or.inr ⟨by rfl, rfl⟩) (by assumption) ?_
          try simp only [Act.put, List.setIfInBounds_toArray, List.set_cons_zero, List.set_cons_succ]
          refine wpAnyH_take (i := 16) (oi := { dst := some 30, op := Op.load 5 (Operand.tmp 29), type := 5, pos := "law.go:48", after := #[{ on := 15, ground := Ground.data }, { on := 10, ground := Ground.guard }], guard := some (10, false) }) (v := undef) rfl (by kernel_rfl) (by kernel_rfl) (by kernel_rfl) (fun _ _ _ h => h) (Or.inr ⟨by rfl, rfl⟩) (by assumption) ?_
          try simp only [Act.put, List.setIfInBounds_toArray, List.set_cons_zero, List.set_cons_succ]
          refine wpAnyH_take (i := 17) (oi := { dst := some 31, op := Op.move (Operand.tmp 0), type := 29, pos := "law.go:48", after := #[{ on := 10, ground := Ground.guard }], guard := some (10, false) }) (v := undef) rfl (by kernel_rfl) (by kernel_rfl) (by kernel_rfl) (fun _ _ _ h => h) (Or.inr ⟨by rfl, rfl⟩) (by assumption) ?_
          try simp only [Act.put, List.setIfInBounds_toArray, List.set_cons_zero, List.set_cons_succ]
          refine wpAnyH_take (i := 18) (oi := { dst := some 32, op := Op.move (Operand.tmp 6), type := 3, pos := "law.go:48", after := #[{ on := 10, ground := Ground.guard }], guard := some (10, false) }) (v := undef) rfl (by kernel_rfl) (by kernel_rfl) (by kernel_rfl) (fun _ _ _ h => h) (Or.inr ⟨by rfl, rfl⟩) (by assumption) ?_
          try simp only [Act.put, List.setIfInBounds_toArray, List.set_cons_zero, List.set_cons_succ]
          refine wpAnyH_take (i := 19) (oi := { dst := some 33, op := Op.indexAddr 29 (Operand.tmp 31) (Operand.tmp 32), type := 0, pos := "law.go:48", after := #[{ on := 17, ground := Ground.data }, { on := 18, ground := Ground.data }, { on := 10, ground := Ground.guard }], guard := some (10, false) }) (v := undef) rfl (by kernel_rfl) (by kernel_rfl) (by kernel_rfl) (fun _ _ _ h => h) (Or.inr ⟨by rfl, rfl⟩) (by assumption) ?_
          try simp only [Act.put, List.setIfInBounds_toArray, List.set_cons_zero, List.set_cons_succ]
          refine wpAnyH_take (i := 20) (oi := { dst := some 34, op := Op.fieldAddr 39 (Operand.tmp 33) 0, type := 0, pos := "law.go:48", after := #[{ on := 19, ground := Ground.data }, { on := 10, ground := Ground.guard }], guard := some (10, false) }) (v := undef) rfl (by kernel_rfl) (by kernel_rfl) (by kernel_rfl) (fun _ _ _ h => h) (Or.inr ⟨by rfl, rfl⟩) (by assumption) ?_
          try simp only [Act.put, List.setIfInBounds_toArray, List.set_cons_zero, List.set_cons_succ]
          refine wpAnyH_take (i := 21) (oi := { dst := some 35, op := Op.fieldAddr 32 (Operand.tmp 34) 1, type := 0, pos := "law.go:48", after := #[{ on := 20, ground := Ground.data }, { on := 10, ground := Ground.guard }], guard := some (10, false) }) (v := undef) rfl (by kernel_rfl) (by kernel_rfl) (by kernel_rfl) (fun _ _ _ h => h) (Or.inr ⟨by rfl, rfl⟩) (by assumption) ?_
          try simp only [Act.put, List.setIfInBounds_toArray, List.set_cons_zero, List.set_cons_succ]
          refine wpAnyH_take (i := 22) (oi := { dst := some 36, op := Op.load 5 (Operand.tmp 35), type := 5, pos := "law.go:48", after := #[{ on := 21, ground := Ground.data }, { on := 10, ground := Ground.guard }], guard := some (10, false) }) (v := undef) rfl (by kernel_rfl) (by kernel_rfl) (by kernel_rfl) (fun _ _ _ h => h) (Or.inr ⟨by rfl, rfl⟩) (by assumption) ?_
          try simp only [Act.put, List.setIfInBounds_toArray, List.set_cons_zero, List.set_cons_succ]
          refine wpAnyH_take (i := 23) (oi := { dst := some 37, op := Op.binOp BinOp.gtr 5 (Operand.tmp 30) (Operand.tmp 36) 5, type := 4, pos := "law.go:48", after := #[{ on := 16, ground := Ground.data }, { on := 22, ground := Ground.data }, { on := 10, ground := Ground.guard }], guard := some (10, false) }) (v := undef) rfl (by kernel_rfl) (by kernel_rfl) (by kernel_rfl) (fun _ _ _ h => h) (Or.inr ⟨by rfl, rfl⟩) (by assumption) ?_
          try simp only [Act.put, List.setIfInBounds_toArray, List.set_cons_zero, List.set_cons_succ]
          refine wpAnyH_take (i := 24) (oi := { dst := some 38, op := Op.pick (Operand.tmp 24) (Operand.const (Value.bool true)) (Operand.tmp 37), type := 4, pos := "law.go:48", after := #[{ on := 10, ground := Ground.data }, { on := 23, ground := Ground.data }, { on := 7, ground := Ground.guard }], guard := some (7, true) }) (v := .bool true) rfl (by kernel_rfl) (by kernel_rfl) (by kernel_rfl) (fun _ _ _ h => h) (Or.inl ⟨by rfl, fun w hSw => by go_simp⟩) (by assumption) ?_
          try simp only [Act.put, List.setIfInBounds_toArray, List.set_cons_zero, List.set_cons_succ]
          refine wpAnyH_take (i := 25) (oi := { dst := some 39, op := Op.pick (Operand.tmp 21) (Operand.tmp 38) (Operand.const (Value.bool false)), type := 4, pos := "law.go:48", after := #[{ on := 7, ground := Ground.data }, { on := 24, ground := Ground.data }], guard := none }) (v := .bool true) rfl (by kernel_rfl) (by kernel_rfl) (by kernel_rfl) (fun _ _ _ h => h) (Or.inl ⟨by rfl, fun w hSw => by go_simp⟩) (by assumption) ?_
          try simp only [Act.put, List.setIfInBounds_toArray, List.set_cons_zero, List.set_cons_succ]
          refine wpAnyH_done (by kernel_rfl) ?_ _
          try unfold NoPanic
          have HB := Lib.hid (And.intro (HR.out.1.trans (hHeld.mono HR.out.1.size)) ((hHeld.block _ (Array.getElem?_eq_some_iff.1 HR.out.2).1).trans HR.out.2))
          clear hHeld
          go_wp2
          go_roundw
          case rel => exact ⟨k + 1, by omega, by go_num, (k : Int), rfl, HNW, HB⟩
          case measure => simp [intOf]; omega
        · obtain ⟨j, y, hfj, hjk, hyj⟩ : ∃ j y, f = (j : Nat) ∧ j < k ∧ rs[j]? = some y := by
            rcases HF.out with ⟨h, _⟩ | ⟨j, y, h1, h2, h3, _⟩
            · omega
            · exact ⟨j, y, h1, h2, h3⟩
          subst hfj
          have hjl : Hid (j < rs.length) := Lib.hid (List.getElem?_eq_some_iff.1 hyj).1
          obtain ⟨b1, o1, ea, hb1, hcy⟩ := HS.out j hjl.out
          injection ea with ea
          injection ea with ea1 ea2
          subst ea1 ea2
          have hye : rs[j]'(hjl.out) = y := by have h := hyj; rw [List.getElem?_eq_getElem hjl.out] at h; injection h
          rw [hye] at hcy
          have HCY := Lib.hid (And.intro (hcy.keep (HR.out.1.block b0 hb1)) (Nat.lt_of_lt_of_le hb1 HR.out.1.size))
          have hj9 : (j : Int) < n := by omega
          have hj8 : ¬ n ≤ j := by omega
          have HYJ := Lib.hid hyj
          clear hye hcy hyj
          by_cases hgt : y.n < z.n
          · have HNW := Lib.hid (HF.out.new HZK.out hal (.inr ⟨j, y, rfl, HYJ.out, hgt⟩))
            have hgt2 : (y.n : Int) < z.n := by omega
            clear hal hgt
            refine wp_region_noPanic ?_
            refine wp_region_held_drew (S := fun W : World => Below wr.heap.size wr W) (by kernel_rfl) ((Below.refl _ _).drew) (fun hHeld => ?_)
            generalize wr.drew = wd at *
            refine wpAnyH_take (i := 0) (oi := { dst := some 14, op := Op.move (Operand.tmp 0), type := 29, pos := "law.go:48", after := #[], guard := none }) (v := .slice (some ⟨b0, o0, none⟩) n cp) rfl (by kernel_rfl) (by kernel_rfl) (by kernel_rfl) (fun _ _ _ h => h) (Or.inl ⟨by rfl, fun w hSw => by go_simp⟩) (by assumption) ?_
            try simp only [Act.put, List.setIfInBounds_toArray, List.set_cons_zero, List.set_cons_succ]
            refine wpAnyH_take (i := 1) (oi := { dst := some 15, op := Op.move (Operand.tmp 7), type := 3, pos := "law.go:48", after := #[], guard := none }) (v := .int .i64 (k : Int)) rfl (by kernel_rfl) (by kernel_rfl) (by kernel_rfl) (fun _ _ _ h => h) (Or.inl ⟨by rfl, fun w hSw => by go_simp⟩) (by assumption) ?_
            try simp only [Act.put, List.setIfInBounds_toArray, List.set_cons_zero, List.set_cons_succ]
            refine wpAnyH_take (i := 2) (oi := { dst := some 16, op := Op.indexAddr 29 (Operand.tmp 14) (Operand.tmp 15), type := 0, pos := "law.go:48", after := #[{ on := 0, ground := Ground.data }, { on := 1, ground := Ground.data }], guard := none }) (v := .pointer (some ⟨b0, o0 + k * 5, none⟩)) rfl (by kernel_rfl) (by kernel_rfl) (by kernel_rfl) (fun _ _ _ h => h) (Or.inl ⟨by rfl, fun w hSw => by go_simp⟩) (by assumption) ?_
            try simp only [Act.put, List.setIfInBounds_toArray, List.set_cons_zero, List.set_cons_succ]
            refine wpAnyH_take (i := 3) (oi := { dst := some 17, op := Op.fieldAddr 39 (Operand.tmp 16) 0, type := 0, pos := "law.go:48", after := #[{ on := 2, ground := Ground.data }], guard := none }) (v := .pointer (some ⟨b0, o0 + k * 5, none⟩)) rfl (by kernel_rfl) (by kernel_rfl) (by kernel_rfl) (fun _ _ _ h => h) (Or.inl ⟨by rfl, fun w hSw => by go_simp⟩) (by assumption) ?_
            try simp only [Act.put, List.setIfInBounds_toArray, List.set_cons_zero, List.set_cons_succ]
            refine wpAnyH_take (i := 4) (oi := { dst := some 18, op := Op.load 32 (Operand.tmp 17), type := 32, pos := "law.go:48", after := #[{ on := 3, ground := Ground.data }], guard := none }) (v := .agg #[.int .u32 (z.a : Int), .int .u8 (z.n : Int)]) rfl (by kernel_rfl) (by kernel_rfl) (by kernel_rfl) (fun _ _ _ h => h) (Or.inl ⟨by rfl, fun w hSw => by obtain ⟨q0, q1, q2, q3, q4⟩ := HC.out.1.keep (hSw.block b0 HC.out.2); go_simp⟩) (by assumption) ?_
            try simp only [Act.put, List.setIfInBounds_toArray, List.set_cons_zero, List.set_cons_succ]
            refine wpAnyH_take (i := 5) (oi := { dst := some 19, op := Op.move (Operand.tmp 1), type := 30, pos := "law.go:48", after := #[], guard := none }) (v := .int .u32 (b : Int)) rfl (by kernel_rfl) (by kernel_rfl) (by kernel_rfl) (fun _ _ _ h => h) (Or.inl ⟨by rfl, fun w hSw => by go_simp⟩) (by assumption) ?_
            try simp only [Act.put, List.setIfInBounds_toArray, List.set_cons_zero, List.set_cons_succ]
            refine wpAnyH_ready (rs := [6]) (by kernel_rfl) (by simp) ?_
            refine AllReadyH.cons (o := { dst := some 20, op := Op.call { callee := Callee.value (Operand.func 26), args := #[Operand.tmp 18, Operand.tmp 19], argTypes := #[32, 30] }, type := 4, pos := "law.go:48", after := #[{ on := 4, ground := Ground.data }, { on := 5, ground := Ground.data }], guard := none }) rfl (fun K hK => ?_) AllReadyH.nil
            go_simp
            with_reducible refine (c26 _).mono ?_
            rintro e w5 ⟨rfl, B5⟩
            refine hK.out _ _ (hHeld.trans (B5.mono hHeld.size)) (fun hHeld => ?_)
            clear hK K
            try simp only [Act.put, List.setIfInBounds_toArray, List.set_cons_zero, List.set_cons_succ]
            refine wpAnyH_take (i := 7) (oi := { dst := some 21, op := Op.move (Operand.tmp 20), type := 4, pos := "law.go:48", after := #[{ on := 6, ground := Ground.data }, { on := 6, ground := Ground.chain }], guard := none }) (v := .bool true) rfl (by kernel_rfl) (by kernel_rfl) (by kernel_rfl) (fun _ _ _ h => h) (Or.inl ⟨by rfl, fun w hSw => by go_simp⟩) (by assumption) ?_
            try simp only [Act.put, List.setIfInBounds_toArray, List.set_cons_zero, List.set_cons_succ]
            refine wpAnyH_take (i := 8) (oi := { dst := some 22, op := Op.move (Operand.tmp 6), type := 3, pos := "law.go:48", after := #[{ on := 7, ground := Ground.guard }], guard := some (7, true) }) (v := .int .i64 (j : Int)) rfl (by kernel_rfl) (by kernel_rfl) (by kernel_rfl) (fun _ _ _ h => h) (Or.inl ⟨by rfl, fun w hSw => by go_simp⟩) (by assumption) ?_
            try simp only [Act.put, List.setIfInBounds_toArray, List.set_cons_zero, List.set_cons_succ]
            refine wpAnyH_take (i := 9) (oi := { dst := some 23, op := Op.binOp BinOp.lss 3 (Operand.tmp 22) (Operand.const (Value.int IntKind.i64 0)) 3, type := 4, pos := "law.go:48", after := #[{ on := 8, ground := Ground.data }, { on := 7, ground := Ground.guard }], guard := some (7, true) }) (v := .bool false) rfl (by kernel_rfl) (by kernel_rfl) (by kernel_rfl) (fun _ _ _ h => h) (Or.inl ⟨by rfl, fun w hSw => by go_simp⟩) (by assumption) ?_
            try simp only [Act.put, List.setIfInBounds_toArray, List.set_cons_zero, List.set_cons_succ]
            refine wpAnyH_take (i := 10) (oi := { dst := some 24, op := Op.move (Operand.tmp 23), type := 4, pos := "law.go:48", after := #[{ on := 9, ground := Ground.data }, { on := 7, ground := Ground.chain }, { on := 7, ground := Ground.guard }], guard := some (7, true) }) (v := .bool false) rfl (by kernel_rfl) (by kernel_rfl) (by kernel_rfl) (fun _ _ _ h => h) (Or.inl ⟨by rfl, fun w hSw => by go_simp⟩) (by assumption) ?_
            try simp only [Act.put, List.setIfInBounds_toArray, List.set_cons_zero, List.set_cons_succ]
            refine wpAnyH_take (i := 11) (oi := { dst := some 25, op := Op.move (Operand.tmp 0), type := 29, pos := "law.go:48", after := #[{ on := 10, ground := Ground.guard }], guard := some (10, false) }) (v := .slice (some ⟨b0, o0, none⟩) n cp) rfl (by kernel_rfl) (by kernel_rfl) (by kernel_rfl) (fun _ _ _ h => h) (Or.inl ⟨by rfl, fun w hSw => by go_simp⟩) (by assumption) ?_
            try simp only [Act.put, List.setIfInBounds_toArray, List.set_cons_zero, List.set_cons_succ]
            refine wpAnyH_take (i := 12) (oi := { dst := some 26, op := Op.move (Operand.tmp 7), type := 3, pos := "law.go:48", after := #[{ on := 10, ground := Ground.guard }], guard := some (10, false) }) (v := .int .i64 (k : Int)) rfl (by kernel_rfl) (by kernel_rfl) (by kernel_rfl) (fun _ _ _ h => h) (Or.inl ⟨by rfl, fun w hSw => by go_simp⟩) (by assumption) ?_
            try simp only [Act.put, List.setIfInBounds_toArray, List.set_cons_zero, List.set_cons_succ]
            refine wpAnyH_take (i := 13) (oi := { dst := some 27, op := Op.indexAddr 29 (Operand.tmp 25) (Operand.tmp 26), type := 0, pos := "law.go:48", after := #[{ on := 11, ground := Ground.data }, { on := 12, ground := Ground.data }, { on := 10, ground := Ground.guard }], guard := some (10, false) }) (v := .pointer (some ⟨b0, o0 + k * 5, none⟩)) rfl (by kernel_rfl) (by kernel_rfl) (by kernel_rfl) (fun _ _ _ h => h) (Or.inl ⟨by rfl, fun w hSw => by go_simp⟩) (by assumption) ?_
            try simp only [Act.put, List.setIfInBounds_toArray, List.set_cons_zero, List.set_cons_succ]
            refine wpAnyH_take (i := 14) (oi := { dst := some 28, op := Op.fieldAddr 39 (Operand.tmp 27) 0, type := 0, pos := "law.go:48", after := #[{ on := 13, ground := Ground.data }, { on := 10, ground := Ground.guard }], guard := some (10, false) }) (v := .pointer (some ⟨b0, o0 + k * 5, none⟩)) rfl (by kernel_rfl) (by kernel_rfl) (by kernel_rfl) (fun _ _ _ h => h) (Or.inl ⟨by rfl, fun w hSw => by go_simp⟩) (by assumption) ?_
            try simp only [Act.put, List.setIfInBounds_toArray, List.set_cons_zero, List.set_cons_succ]
            refine wpAnyH_take (i := 15) (oi := { dst := some 29, op := Op.fieldAddr 32 (Operand.tmp 28) 1, type := 0, pos := "law.go:48", after := #[{ on := 14, ground := Ground.data }, { on := 10, ground := Ground.guard }], guard := some (10, false) }) (v := .pointer (some ⟨b0, o0 + k * 5 + 1, none⟩)) rfl (by kernel_rfl) (by kernel_rfl) (by kernel_rfl) (fun _ _ _ h => h) (Or.inl ⟨by rfl, fun w hSw => by go_simp⟩) (by assumption) ?_
            try simp only [Act.put, List.setIfInBounds_toArray, List.set_cons_zero, List.set_cons_succ]
            refine wpAnyH_take (i := 16) (oi := { dst := some 30, op := Op.load 5 (Operand.tmp 29), type := 5, pos := "law.go:48", after := #[{ on := 15, ground := Ground.data }, { on := 10, ground := Ground.guard }], guard := some (10, false) }) (v := .int .u8 (z.n : Int)) rfl (by kernel_rfl) (by kernel_rfl) (by kernel_rfl) (fun _ _ _ h => h) (Or.inl ⟨by rfl, fun w hSw => by obtain ⟨q0, q1, q2, q3, q4⟩ := HC.out.1.keep (hSw.block b0 HC.out.2); go_simp⟩) (by assumption) ?_
            try simp only [Act.put, List.setIfInBounds_toArray, List.set_cons_zero, List.set_cons_succ]
            refine wpAnyH_take (i := 17) (oi := { dst := some 31, op := Op.move (Operand.tmp 0), type := 29, pos := "law.go:48", after := #[{ on := 10, ground := Ground.guard }], guard := some (10, false) }) (v := .slice (some ⟨b0, o0, none⟩) n cp) rfl (by kernel_rfl) (by kernel_rfl) (by kernel_rfl) (fun _ _ _ h => h) (Or.inl ⟨by rfl, fun w hSw => by go_simp⟩) (by assumption) ?_
            try simp only [Act.put, List.setIfInBounds_toArray, List.set_cons_zero, List.set_cons_succ]
            refine wpAnyH_take (i := 18) (oi := { dst := some 32, op := Op.move (Operand.tmp 6), type := 3, pos := "law.go:48", after := #[{ on := 10, ground := Ground.guard }], guard := some (10, false) }) (v := .int .i64 (j : Int)) rfl (by kernel_rfl) (by kernel_rfl) (by kernel_rfl) (fun _ _ _ h => h) (Or.inl ⟨by rfl, fun w hSw => by go_simp⟩) (by assumption) ?_
            try simp only [Act.put, List.setIfInBounds_toArray, List.set_cons_zero, List.set_cons_succ]
            refine wpAnyH_take (i := 19) (oi := { dst := some 33, op := Op.indexAddr 29 (Operand.tmp 31) (Operand.tmp 32), type := 0, pos := "law.go:48", after := #[{ on := 17, ground := Ground.data }, { on := 18, ground := Ground.data }, { on := 10, ground := Ground.guard }], guard := some (10, false) }) (v := .pointer (some ⟨b0, o0 + j * 5, none⟩)) rfl (by kernel_rfl) (by kernel_rfl) (by kernel_rfl) (fun _ _ _ h => h) (Or.inl ⟨by rfl, fun w hSw => by go_simp⟩) (by assumption) ?_
            try simp only [Act.put, List.setIfInBounds_toArray, List.set_cons_zero, List.set_cons_succ]
            refine wpAnyH_take (i := 20) (oi := { dst := some 34, op := Op.fieldAddr 39 (Operand.tmp 33) 0, type := 0, pos := "law.go:48", after := #[{ on := 19, ground := Ground.data }, { on := 10, ground := Ground.guard }], guard := some (10, false) }) (v := .pointer (some ⟨b0, o0 + j * 5, none⟩)) rfl (by kernel_rfl) (by kernel_rfl) (by kernel_rfl) (fun _ _ _ h => h) (Or.inl ⟨by rfl, fun w hSw => by go_simp⟩) (by assumption) ?_
            try simp only [Act.put, List.setIfInBounds_toArray, List.set_cons_zero, List.set_cons_succ]
            refine wpAnyH_take (i := 21) (oi := { dst := some 35, op := Op.fieldAddr 32 (Operand.tmp 34) 1, type := 0, pos := "law.go:48", after := #[{ on := 20, ground := Ground.data }, { on := 10, ground := Ground.guard }], guard := some (10, false) }) (v := .pointer (some ⟨b0, o0 + j * 5 + 1, none⟩)) rfl (by kernel_rfl) (by kernel_rfl) (by kernel_rfl) (fun _ _ _ h => h) (Or.inl ⟨by rfl, fun w hSw => by go_simp⟩) (by assumption) ?_
            try simp only [Act.put, List.setIfInBounds_toArray, List.set_cons_zero, List.set_cons_succ]
            refine wpAnyH_take (i := 22) (oi := { dst := some 36, op := Op.load 5 (Operand.tmp 35), type := 5, pos := "law.go:48", after := #[{ on := 21, ground := Ground.data }, { on := 10, ground := Ground.guard }], guard := some (10, false) }) (v := .int .u8 (y.n : Int)) rfl (by kernel_rfl) (by kernel_rfl) (by kernel_rfl) (fun _ _ _ h => h) (Or.inl ⟨by rfl, fun w hSw => by obtain ⟨q0, q1, q2, q3, q4⟩ := HCY.out.1.keep (hSw.block b0 HCY.out.2); go_simp⟩) (by assumption) ?_
            try simp only [Act.put, List.setIfInBounds_toArray, List.set_cons_zero, List.set_cons_succ]
            refine wpAnyH_take (i := 23) (oi := { dst := some 37, op := Op.binOp BinOp.gtr 5 (Operand.tmp 30) (Operand.tmp 36) 5, type := 4, pos := "law.go:48", after := #[{ on := 16, ground := Ground.data }, { on := 22, ground := Ground.data }, { on := 10, ground := Ground.guard }], guard := some (10, false) }) (v := .bool true) rfl (by kernel_rfl) (by kernel_rfl) (by kernel_rfl) (fun _ _ _ h => h) (Or.inl ⟨by rfl, fun w hSw => by have hz := hgt2; go_simp⟩) (by assumption) ?_
            try simp only [Act.put, List.setIfInBounds_toArray, List.set_cons_zero, List.set_cons_succ]
            refine wpAnyH_take (i := 24) (oi := { dst := some 38, op := Op.pick (Operand.tmp 24) (Operand.const (Value.bool true)) (Operand.tmp 37), type := 4, pos := "law.go:48", after := #[{ on := 10, ground := Ground.data }, { on := 23, ground := Ground.data }, { on := 7, ground := Ground.guard }], guard := some (7, true) }) (v := .bool true) rfl (by kernel_rfl) (by kernel_rfl) (by kernel_rfl) (fun _ _ _ h => h) (Or.inl ⟨by rfl, fun w hSw => by go_simp⟩) (by assumption) ?_
            try simp only [Act.put, List.setIfInBounds_toArray, List.set_cons_zero, List.set_cons_succ]
            refine wpAnyH_take (i := 25) (oi := { dst := some 39, op := Op.pick (Operand.tmp 21) (Operand.tmp 38) (Operand.const (Value.bool false)), type := 4, pos := "law.go:48", after := #[{ on := 7, ground := Ground.data }, { on := 24, ground := Ground.data }], guard := none }) (v := .bool true) rfl (by kernel_rfl) (by kernel_rfl) (by kernel_rfl) (fun _ _ _ h => h) (Or.inl ⟨by rfl, fun w hSw => by go_simp⟩) (by assumption) ?_
            try simp only [Act.put, List.setIfInBounds_toArray, List.set_cons_zero, List.set_cons_succ]
            refine wpAnyH_done (by kernel_rfl) ?_ _
            try unfold NoPanic
            have HB := Lib.hid (And.intro (HR.out.1.trans (hHeld.mono HR.out.1.size)) ((hHeld.block _ (Array.getElem?_eq_some_iff.1 HR.out.2).1).trans HR.out.2))
            clear hHeld
            go_wp2
            go_roundw
            case rel => exact ⟨k + 1, by omega, by go_num, (k : Int), rfl, HNW, HB⟩
            case measure => simp [intOf]; omega
          · have HSK := Lib.hid (HF.out.skip HZK.out (fun _ => ⟨j, y, rfl, HYJ.out, by omega⟩))
            have hgt2 : ¬ (y.n : Int) < z.n := by omega
            clear hal hgt
            refine wp_region_noPanic ?_
            refine wp_region_held_drew (S := fun W : World => Below wr.heap.size wr W) (by kernel_rfl) ((Below.refl _ _).drew) (fun hHeld => ?_)
            generalize wr.drew = wd at *
            refine wpAnyH_take (i := 0) (oi := { dst := some 14, op := Op.move (Operand.tmp 0), type := 29, pos := "law.go:48", after := #[], guard := none }) (v := .slice (some ⟨b0, o0, none⟩) n cp) rfl (by kernel_rfl) (by kernel_rfl) (by kernel_rfl) (fun _ _ _ h => h) (Or.inl ⟨by rfl, fun w hSw => by go_simp⟩) (by assumption) ?_
            try simp only [Act.put, List.setIfInBounds_toArray, List.set_cons_zero, List.set_cons_succ]
            refine wpAnyH_take (i := 1) (oi := { dst := some 15, op := Op.move (Operand.tmp 7), type := 3, pos := "law.go:48", after := #[], guard := none }) (v := .int .i64 (k : Int)) rfl (by kernel_rfl) (by kernel_rfl) (by kernel_rfl) (fun _ _ _ h => h) (Or.inl ⟨by rfl, fun w hSw => by go_simp⟩) (by assumption) ?_
            try simp only [Act.put, List.setIfInBounds_toArray, List.set_cons_zero, List.set_cons_succ]
            refine wpAnyH_take (i := 2) (oi := { dst := some 16, op := Op.indexAddr 29 (Operand.tmp 14) (Operand.tmp 15), type := 0, pos := "law.go:48", after := #[{ on := 0, ground := Ground.data }, { on := 1, ground := Ground.data }], guard := none }) (v := .pointer (some ⟨b0, o0 + k * 5, none⟩)) rfl (by kernel_rfl) (by kernel_rfl) (by kernel_rfl) (fun _ _ _ h => h) (Or.inl ⟨by rfl, fun w hSw => by go_simp⟩) (by assumption) ?_
            try simp only [Act.put, List.setIfInBounds_toArray, List.set_cons_zero, List.set_cons_succ]
            refine wpAnyH_take (i := 3) (oi := { dst := some 17, op := Op.fieldAddr 39 (Operand.tmp 16) 0, type := 0, pos := "law.go:48", after := #[{ on := 2, ground := Ground.data }], guard := none }) (v := .pointer (some ⟨b0, o0 + k * 5, none⟩)) rfl (by kernel_rfl) (by kernel_rfl) (by kernel_rfl) (fun _ _ _ h => h) (Or.inl ⟨by rfl, fun w hSw => by go_simp⟩) (by assumption) ?_
            try simp only [Act.put, List.setIfInBounds_toArray, List.set_cons_zero, List.set_cons_succ]
            refine wpAnyH_take (i := 4) (oi := { dst := some 18, op := Op.load 32 (Operand.tmp 17), type := 32, pos := "law.go:48", after := #[{ on := 3, ground := Ground.data }], guard := none }) (v := .agg #[.int .u32 (z.a : Int), .int .u8 (z.n : Int)]) rfl (by kernel_rfl) (by kernel_rfl) (by kernel_rfl) (fun _ _ _ h => h) (Or.inl ⟨by rfl, fun w hSw => by obtain ⟨q0, q1, q2, q3, q4⟩ := HC.out.1.keep (hSw.block b0 HC.out.2); go_simp⟩) (by assumption) ?_
            try simp only [Act.put, List.setIfInBounds_toArray, List.set_cons_zero, List.set_cons_succ]
            refine wpAnyH_take (i := 5) (oi := { dst := some 19, op := Op.move (Operand.tmp 1), type := 30, pos := "law.go:48", after := #[], guard := none }) (v := .int .u32 (b : Int)) rfl (by kernel_rfl) (by kernel_rfl) (by kernel_rfl) (fun _ _ _ h => h) (Or.inl ⟨by rfl, fun w hSw => by go_simp⟩) (by assumption) ?_
            try simp only [Act.put, List.setIfInBounds_toArray, List.set_cons_zero, List.set_cons_succ]
            refine wpAnyH_ready (rs := [6]) (by kernel_rfl) (by simp) ?_
            refine AllReadyH.cons (o := { dst := some 20, op := Op.call { callee := Callee.value (Operand.func 26), args := #[Operand.tmp 18, Operand.tmp 19], argTypes := #[32, 30] }, type := 4, pos := "law.go:48", after := #[{ on := 4, ground := Ground.data }, { on := 5, ground := Ground.data }], guard := none }) rfl (fun K hK => ?_) AllReadyH.nil
            go_simp
            with_reducible refine (c26 _).mono ?_
            rintro e w5 ⟨rfl, B5⟩
            refine hK.out _ _ (hHeld.trans (B5.mono hHeld.size)) (fun hHeld => ?_)
            clear hK K
            try simp only [Act.put, List.setIfInBounds_toArray, List.set_cons_zero, List.set_cons_succ]
            refine wpAnyH_take (i := 7) (oi := { dst := some 21, op := Op.move (Operand.tmp 20), type := 4, pos := "law.go:48", after := #[{ on := 6, ground := Ground.data }, { on := 6, ground := Ground.chain }], guard := none }) (v := .bool true) rfl (by kernel_rfl) (by kernel_rfl) (by kernel_rfl) (fun _ _ _ h => h) (Or.inl ⟨by rfl, fun w hSw => by go_simp⟩) (by assumption) ?_
            try simp only [Act.put, List.setIfInBounds_toArray, List.set_cons_zero, List.set_cons_succ]
            refine wpAnyH_take (i := 8) (oi := { dst := some 22, op := Op.move (Operand.tmp 6), type := 3, pos := "law.go:48", after := #[{ on := 7, ground := Ground.guard }], guard := some (7, true) }) (v := .int .i64 (j : Int)) rfl (by kernel_rfl) (by kernel_rfl) (by kernel_rfl) (fun _ _ _ h => h) (Or.inl ⟨by rfl, fun w hSw => by go_simp⟩) (by assumption) ?_
            try simp only [Act.put, List.setIfInBounds_toArray, List.set_cons_zero, List.set_cons_succ]
            refine wpAnyH_take (i := 9) (oi := { dst := some 23, op := Op.binOp BinOp.lss 3 (Operand.tmp 22) (Operand.const (Value.int IntKind.i64 0)) 3, type := 4, pos := "law.go:48", after := #[{ on := 8, ground := Ground.data }, { on := 7, ground := Ground.guard }], guard := some (7, true) }) (v := .bool false) rfl (by kernel_rfl) (by kernel_rfl) (by kernel_rfl) (fun _ _ _ h => h) (Or.inl ⟨by rfl, fun w hSw => by go_simp⟩) (by assumption) ?_
            try simp only [Act.put, List.setIfInBounds_toArray, List.set_cons_zero, List.set_cons_succ]
            refine wpAnyH_take (i := 10) (oi := { dst := some 24, op := Op.move (Operand.tmp 23), type := 4, pos := "law.go:48", after := #[{ on := 9, ground := Ground.data }, { on := 7, ground := Ground.chain }, { on := 7, ground := Ground.guard }], guard := some (7, true) }) (v := .bool false) rfl (by kernel_rfl) (by kernel_rfl) (by kernel_rfl) (fun _ _ _ h => h) (Or.inl ⟨by rfl, fun w hSw => by go_simp⟩) (by assumption) ?_
            try simp only [Act.put, List.setIfInBounds_toArray, List.set_cons_zero, List.set_cons_succ]
            refine wpAnyH_take (i := 11) (oi := { dst := some 25, op := Op.move (Operand.tmp 0), type := 29, pos := "law.go:48", after := #[{ on := 10, ground := Ground.guard }], guard := some (10, false) }) (v := .slice (some ⟨b0, o0, none⟩) n cp) rfl (by kernel_rfl) (by kernel_rfl) (by kernel_rfl) (fun _ _ _ h => h) (Or.inl ⟨by rfl, fun w hSw => by go_simp⟩) (by assumption) ?_
            try simp only [Act.put, List.setIfInBounds_toArray, List.set_cons_zero, List.set_cons_succ]
            refine wpAnyH_take (i := 12) (oi := { dst := some 26, op := Op.move (Operand.tmp 7), type := 3, pos := "law.go:48", after := #[{ on := 10, ground := Ground.guard }], guard := some (10, false) }) (v := .int .i64 (k : Int)) rfl (by kernel_rfl) (by kernel_rfl) (by kernel_rfl) (fun _ _ _ h => h) (Or.inl ⟨by rfl, fun w hSw => by go_simp⟩) (by assumption) ?_
            try simp only [Act.put, List.setIfInBounds_toArray, List.set_cons_zero, List.set_cons_succ]
            refine wpAnyH_take (i := 13) (oi := { dst := some 27, op := Op.indexAddr 29 (Operand.tmp 25) (Operand.tmp 26), type := 0, pos := "law.go:48", after := #[{ on := 11, ground := Ground.data }, { on := 12, ground := Ground.data }, { on := 10, ground := Ground.guard }], guard := some (10, false) }) (v := .pointer (some ⟨b0, o0 + k * 5, none⟩)) rfl (by kernel_rfl) (by kernel_rfl) (by kernel_rfl) (fun _ _ _ h => h) (Or.inl ⟨by rfl, fun w hSw => by go_simp⟩) (by assumption) ?_
            try simp only [Act.put, List.setIfInBounds_toArray, List.set_cons_zero, List.set_cons_succ]
            refine wpAnyH_take (i := 14) (oi := { dst := some 28, op := Op.fieldAddr 39 (Operand.tmp 27) 0, type := 0, pos := "law.go:48", after := #[{ on := 13, ground := Ground.data }, { on := 10, ground := Ground.guard }], guard := some (10, false) }) (v := .pointer (some ⟨b0, o0 + k * 5, none⟩)) rfl (by kernel_rfl) (by kernel_rfl) (by kernel_rfl) (fun _ _ _ h => h) (Or.inl ⟨by rfl, fun w hSw => by go_simp⟩) (by assumption) ?_
            try simp only [Act.put, List.setIfInBounds_toArray, List.set_cons_zero, List.set_cons_succ]
            refine wpAnyH_take (i := 15) (oi := { dst := some 29, op := Op.fieldAddr 32 (Operand.tmp 28) 1, type := 0, pos := "law.go:48", after := #[{ on := 14, ground := Ground.data }, { on := 10, ground := Ground.guard }], guard := some (10, false) }) (v := .pointer (some ⟨b0, o0 + k * 5 + 1, none⟩)) rfl (by kernel_rfl) (by kernel_rfl) (by kernel_rfl) (fun _ _ _ h => h) (Or.inl ⟨by rfl, fun w hSw => by go_simp⟩) (by assumption) ?_
            try simp only [Act.put, List.setIfInBounds_toArray, List.set_cons_zero, List.set_cons_succ]
            refine wpAnyH_take (i := 16) (oi := { dst := some 30, op := Op.load 5 (Operand.tmp 29), type := 5, pos := "law.go:48", after := #[{ on := 15, ground := Ground.data }, { on := 10, ground := Ground.guard }], guard := some (10, false) }) (v := .int .u8 (z.n : Int)) rfl (by kernel_rfl) (by kernel_rfl) (by kernel_rfl) (fun _ _ _ h => h) (Or.inl ⟨by rfl, fun w hSw => by obtain ⟨q0, q1, q2, q3, q4⟩ := HC.out.1.keep (hSw.block b0 HC.out.2); go_simp⟩) (by assumption) ?_
            try simp only [Act.put, List.setIfInBounds_toArray, List.set_cons_zero, List.set_cons_succ]
            refine wpAnyH_take (i := 17) (oi := { dst := some 31, op := Op.move (Operand.tmp 0), type := 29, pos := "law.go:48", after := #[{ on := 10, ground := Ground.guard }], guard := some (10, false) }) (v := .slice (some ⟨b0, o0, none⟩) n cp) rfl (by kernel_rfl) (by kernel_rfl) (by kernel_rfl) (fun _ _ _ h => h) (Or.inl ⟨by rfl, fun w hSw => by go_simp⟩) (by assumption) ?_
            try simp only [Act.put, List.setIfInBounds_toArray, List.set_cons_zero, List.set_cons_succ]
            refine wpAnyH_take (i := 18) (oi := { dst := some 32, op := Op.move (Operand.tmp 6), type := 3, pos := "law.go:48", after := #[{ on := 10, ground := Ground.guard }], guard := some (10, false) }) (v := .int .i64 (j : Int)) rfl (by kernel_rfl) (by kernel_rfl) (by kernel_rfl) (fun _ _ _ h => h) (Or.inl ⟨by rfl, fun w hSw => by go_simp⟩) (by assumption) ?_
            try simp only [Act.put, List.setIfInBounds_toArray, List.set_cons_zero, List.set_cons_succ]
            refine wpAnyH_take (i := 19) (oi := { dst := some 33, op := Op.indexAddr 29 (Operand.tmp 31) (Operand.tmp 32), type := 0, pos := "law.go:48", after := #[{ on := 17, ground := Ground.data }, { on := 18, ground := Ground.data }, { on := 10, ground := Ground.guard }], guard := some (10, false) }) (v := .pointer (some ⟨b0, o0 + j * 5, none⟩)) rfl (by kernel_rfl) (by kernel_rfl) (by kernel_rfl) (fun _ _ _ h => h) (Or.inl ⟨by rfl, fun w hSw => by go_simp⟩) (by assumption) ?_
            try simp only [Act.put, List.setIfInBounds_toArray, List.set_cons_zero, List.set_cons_succ]
            refine wpAnyH_take (i := 20) (oi := { dst := some 34, op := Op.fieldAddr 39 (Operand.tmp 33) 0, type := 0, pos := "law.go:48", after := #[{ on := 19, ground := Ground.data }, { on := 10, ground := Ground.guard }], guard := some (10, false) }) (v := .pointer (some ⟨b0, o0 + j * 5, none⟩)) rfl (by kernel_rfl) (by kernel_rfl) (by kernel_rfl) (fun _ _ _ h => h) (Or.inl ⟨by rfl, fun w hSw => by go_simp⟩) (by assumption) ?_
            try simp only [Act.put, List.setIfInBounds_toArray, List.set_cons_zero, List.set_cons_succ]
            refine wpAnyH_take (i := 21) (oi := { dst := some 35, op := Op.fieldAddr 32 (Operand.tmp 34) 1, type := 0, pos := "law.go:48", after := #[{ on := 20, ground := Ground.data }, { on := 10, ground := Ground.guard }], guard := some (10, false) }) (v := .pointer (some ⟨b0, o0 + j * 5 + 1, none⟩)) rfl (by kernel_rfl) (by kernel_rfl) (by kernel_rfl) (fun _ _ _ h => h) (Or.inl ⟨by rfl, fun w hSw => by go_simp⟩) (by assumption) ?_
            try simp only [Act.put, List.setIfInBounds_toArray, List.set_cons_zero, List.set_cons_succ]
            refine wpAnyH_take (i := 22) (oi := { dst := some 36, op := Op.load 5 (Operand.tmp 35), type := 5, pos := "law.go:48", after := #[{ on := 21, ground := Ground.data }, { on := 10, ground := Ground.guard }], guard := some (10, false) }) (v := .int .u8 (y.n : Int)) rfl (by kernel_rfl) (by kernel_rfl) (by kernel_rfl) (fun _ _ _ h => h) (Or.inl ⟨by rfl, fun w hSw => by obtain ⟨q0, q1, q2, q3, q4⟩ := HCY.out.1.keep (hSw.block b0 HCY.out.2); go_simp⟩) (by assumption) ?_
            try simp only [Act.put, List.setIfInBounds_toArray, List.set_cons_zero, List.set_cons_succ]
            refine wpAnyH_take (i := 23) (oi := { dst := some 37, op := Op.binOp BinOp.gtr 5 (Operand.tmp 30) (Operand.tmp 36) 5, type := 4, pos := "law.go:48", after := #[{ on := 16, ground := Ground.data }, { on := 22, ground := Ground.data }, { on := 10, ground := Ground.guard }], guard := some (10, false) }) (v := .bool false) rfl (by kernel_rfl) (by kernel_rfl) (by kernel_rfl) (fun _ _ _ h => h) (Or.inl ⟨by rfl, fun w hSw => by have hz := hgt2; go_simp⟩) (by assumption) ?_
            try simp only [Act.put, List.setIfInBounds_toArray, List.set_cons_zero, List.set_cons_succ]
            refine wpAnyH_take (i := 24) (oi := { dst := some 38, op := Op.pick (Operand.tmp 24) (Operand.const (Value.bool true)) (Operand.tmp 37), type := 4, pos := "law.go:48", after := #[{ on := 10, ground := Ground.data }, { on := 23, ground := Ground.data }, { on := 7, ground := Ground.guard }], guard := some (7, true) }) (v := .bool false) rfl (by kernel_rfl) (by kernel_rfl) (by kernel_rfl) (fun _ _ _ h => h) (Or.inl ⟨by rfl, fun w hSw => by go_simp⟩) (by assumption) ?_
            try simp only [Act.put, List.setIfInBounds_toArray, List.set_cons_zero, List.set_cons_succ]
            refine wpAnyH_take (i := 25) (oi := { dst := some 39, op := Op.pick (Operand.tmp 21) (Operand.tmp 38) (Operand.const (Value.bool false)), type := 4, pos := "law.go:48", after := #[{ on := 7, ground := Ground.data }, { on := 24, ground := Ground.data }], guard := none }) (v := .bool false) rfl (by kernel_rfl) (by kernel_rfl) (by kernel_rfl) (fun _ _ _ h => h) (Or.inl ⟨by rfl, fun w hSw => by go_simp⟩) (by assumption) ?_
            try simp only [Act.put, List.setIfInBounds_toArray, List.set_cons_zero, List.set_cons_succ]
            refine wpAnyH_done (by kernel_rfl) ?_ _
            try unfold NoPanic
            have HB := Lib.hid (And.intro (HR.out.1.trans (hHeld.mono HR.out.1.size)) ((hHeld.block _ (Array.getElem?_eq_some_iff.1 HR.out.2).1).trans HR.out.2))
            clear hHeld
            go_wp2
            go_roundw
            case rel => exact ⟨k + 1, by omega, by go_num, (j : Int), rfl, HSK, HB⟩
            case measure => simp [intOf]; omega
    · obtain rfl : k = n := by omega
      obtain ⟨r0, r1, r2, r3, r4⟩ := row5 HR.out.2
      have hf := fun i => frozen_of_row _ w.heap.size i _ 39 HR.out.2
      rcases HF.out with ⟨h, hno⟩ | ⟨j, y, h, hjk, hyj, hya, hyl⟩
      · subst h
        have HLL : Hid (LongL rs b none) := Lib.hid (.inl ⟨rfl, fun r hr => by
          obtain ⟨i, hi, rfl⟩ := List.getElem_of_mem hr
          exact hno i (by rw [HN.out]; exact hi) _ (List.getElem?_eq_getElem hi)⟩)
        clear hno
        go_wp2
        exact bodyPost_ret (v := .tuple #[.agg (ocl none), .bool false]) (by simp [ocl, results, Try.results15, go_sem, r0, r1, r2, r3, r4]) rfl ⟨none, rfl, HLL.out, HR.out.1.trans (sets5 _ _ ..)⟩
      · subst h
        have hjl : Hid (j < rs.length) := Lib.hid (List.getElem?_eq_some_iff.1 hyj).1
        obtain ⟨b1, o1, ea, hb1, hcy⟩ := HS.out j hjl.out
        subst ea
        have hye : rs[j]'(hjl.out) = y := by have h := hyj; rw [List.getElem?_eq_getElem hjl.out] at h; injection h
        rw [hye] at hcy
        have HLL : Hid (LongL rs b (some y)) := Lib.hid (.inr ⟨y, rfl, by rw [← hye]; exact List.getElem_mem _, hya, fun z hz e => by
          obtain ⟨i, hi, rfl⟩ := List.getElem_of_mem hz
          exact hyl i (by rw [HN.out]; exact hi) _ (List.getElem?_eq_getElem hi) e⟩)
        obtain ⟨q0, q1, q2, q3, q4⟩ := hcy.keep (HR.out.1.block b1 hb1)
        have hj9 : (j : Int) < k := by omega
        have hj8 : ¬ k ≤ j := by omega
        have hj7 : ¬ (j : Int) < 0 := by omega
        clear hye hya hyl hyj hcy
        go_wp2
        exact bodyPost_ret (v := .tuple #[.agg (ocl (some y)), .bool true]) (by simp [ocl, R.cl, results, Try.results15, go_sem, r0, r1, r2, r3, r4]) rfl ⟨some y, rfl, HLL.out, HR.out.1.trans (sets5 _ _ ..)⟩
end Go.Proofs.Ytfhpcpanjonpeaa.Tri
