/- slices.Insert of one row into rows of the call's own. -/
import Derived.Test.YtkbhmdoichiinaaRb
import Derived.Shelf.Spec.SlicesInsertGrow
import Derived.Maps.AppendAt
import Derived.Deep.RegionLaw
import Derived.Laws.CopyOwn
namespace Go.Proofs.Ytkbhmdoichiinaa.Rts
open Pre Ser
open Go.ChangeShapes Go.WideShapes Go.ChangeAt Go.RowKit
set_option maxRecDepth 8000

theorem shift_list {α : Type} (X Y D L : List α) (hL : L.take (X.length + D.length) = X ++ D) (hlen : X.length + Y.length + D.length ≤ L.length) :
    (splice (splice L (X.length + Y.length) D) X.length Y).take (X.length + Y.length + D.length) = X ++ Y ++ D ∧ (splice (splice L (X.length + Y.length) D) X.length Y).length = L.length := by
  constructor
  · obtain ⟨L', rfl⟩ : ∃ L', L = X ++ (D ++ L') := ⟨L.drop (X.length + D.length), by rw [← List.append_assoc, ← hL, List.take_append_drop]⟩
    have e1 : (X ++ (D ++ L')).take (X.length + Y.length) = X ++ (D ++ L').take Y.length := by
      rw [List.take_append, List.take_of_length_le (by omega), show X.length + Y.length - X.length = Y.length by omega]
    have l1 : ((D ++ L').take Y.length).length = Y.length := by
      simp only [List.length_take, List.length_append] at hlen ⊢; omega
    unfold splice
    rw [e1]
    generalize (D ++ L').take Y.length = T at l1
    generalize (X ++ (D ++ L')).drop (X.length + Y.length + D.length) = R
    rw [List.append_assoc, List.take_left' rfl, ← List.append_assoc X T (D ++ R), List.drop_left' (by rw [List.length_append]; omega)]
    rw [← List.append_assoc X, ← List.append_assoc, List.take_left' (by simp only [List.length_append])]
  · rw [length_splice _ _ _ (by rw [length_splice _ _ _ (by omega)]; omega), length_splice _ _ _ (by omega)]
theorem grow_list {α : Type} (X Y D Z : List α) (hlen : Y.length + D.length ≤ Z.length) :
    (splice (splice (X ++ Z) X.length Y) (X.length + Y.length) D).take (X.length + Y.length + D.length) = X ++ Y ++ D ∧ (splice (splice (X ++ Z) X.length Y) (X.length + Y.length) D).length = (X ++ Z).length := by
  constructor
  · unfold splice
    rw [List.take_left' rfl]
    generalize (X ++ Z).drop (X.length + Y.length) = R
    have e : (X ++ Y ++ R).take (X.length + Y.length) = X ++ Y := List.take_left' (by rw [List.length_append])
    rw [← List.append_assoc X Y R, e]
    rw [← List.append_assoc (X ++ Y), List.take_left' (by simp only [List.length_append])]
  · have h1 : X.length + Y.length ≤ (X ++ Z).length := by rw [List.length_append]; omega
    have h2 := length_splice (X ++ Z) X.length Y h1
    have h3 : X.length + Y.length + D.length ≤ (splice (X ++ Z) X.length Y).length := by rw [h2, List.length_append]; omega
    rw [length_splice _ _ _ h3, h2]
theorem run_copy_rowk {P : Program} (w : World) (dT sT ty elem : TypeId) (k g o dLen dCap : Nat) (a : Addr) (sLen sCap : Nat) (cur : List Value) (t : TypeId) (cs : List Value) (m : Nat)
    (hu : P.underlying dT = some (.slice elem)) (hs : (P.info? elem).map (·.size) = some k)
    (hg : w.heap[g]? = some (.cells cur.toArray t (0, 0))) (hm : Nat.min sLen dLen = m) (hn : cs.length = m * k)
    (hsrc : ∀ j v, cs[j]? = some v → w.cell? (a.add j) = some v) (hfit : o + cs.length ≤ cur.length) (h1 : ∀ v ∈ cs, v.oneCell' = true) :
    (Builtin.copy_ #[dT, sT] ty #[.slice (some ⟨g, o, none⟩) dLen dCap, .slice (some a) sLen sCap]).run P w =
      .ok (goInt m) (w.setRow g (splice cur o cs).toArray) := by
  have hl := run_firstCells_some (P := P) w k m a sLen sCap cs hn hsrc
  have hst := run_storeCells_at P g o t cs 0 cur.toArray w hg (by simpa using hfit) h1
  cases hq : P.info? elem with
  | none => simp [hq] at hs
  | some i =>
    have hi : i.size = k := by simpa [hq] using hs
    simp [Builtin.copy_, run_underlying hu, Builtin.lenOf, sizeOf, typeInfo, hq, hi, hm, hl, hst, splice]
theorem info43 : (Try.prog.info? 43).map (fun i => (i.zero, i.size, i.bytes)) = some (some (.agg #[.int .u32 0, .int .u8 0, .int .i64 0, .int .i64 0, .int .u16 0, .int .u16 0, .int .u64 0]), 7, 40) := by kernel_rfl
theorem rcl_one1 (r : E) : ∀ u ∈ r.cl, u.oneCell' = true := by
  intro u hu
  simp [E.cl] at hu
  rcases hu with rfl | rfl | rfl | rfl | rfl | rfl | rfl <;> rfl
/-- What Insert gives back. -/
def InsSaid (w : World) (B : Nat) (v : Value) (rs : List E) (e : Ending) (w' : World) : Prop := ∃ v', e = .returned v' ∧ EOwn w' B v' rs ∧ w.grownBy w' v.ownBlock ∧ (v'.ownBlock = v.ownBlock ∨ v'.ownBlock = some w.heap.size)
theorem grown_setRow (w : World) (g : Nat) (cs : Array Value) : w.grownBy (w.setRow g cs) (some g) :=
  ⟨rfl, rfl, rfl, by simp, fun k _ hne => setRow_other w g k cs (fun e => hne (by rw [e]))⟩
theorem flat_ins (rs : List E) (r : E) (i : Nat) : (rs.take i ++ r :: rs.drop i).flatMap E.cl = (rs.take i).flatMap E.cl ++ r.cl ++ (rs.drop i).flatMap E.cl := by
  simp only [List.flatMap_append, List.flatMap_cons, List.append_assoc]
theorem len_ins (rs : List E) (r : E) (i : Nat) (hi : i ≤ rs.length) : (rs.take i ++ r :: rs.drop i).length = rs.length + 1 := by
  simp only [List.length_append, List.length_cons, List.length_take, List.length_drop]; omega
/-- At the end. -/
theorem ins_end (w : World) (B : Nat) (v : Value) (rs : List E) (r : E) (vb : Nat) (hown : EOwn w B v rs) (hvb : w.heap[vb]? = some (.cells r.cl.toArray 43 (0, 0))) (hlen : rs.length ≤ 1000) (hB : B ≤ w.heap.size) :
    Calls Try.prog 67 #[v, .int .i64 (rs.length : Int), .slice (some ⟨vb, 0, none⟩) 1 1] w (InsSaid w B v (rs ++ [r])) := by
  obtain ⟨i0, hi, hz0, hz1, hz2⟩ := info_parts info43
  obtain ⟨A, c, hv, _, _⟩ := hown.form
  have HO := Lib.hid hown
  have HI := Lib.hid (And.intro hi (And.intro hz0 (And.intro hz1 hz2)))
  have hn : ∀ j u, r.cl[j]? = some u → w.cell? ((⟨vb, 0, none⟩ : Addr).add j) = some u := fun j u hj => by
    rw [show (⟨vb, 0, none⟩ : Addr).add j = ⟨vb, j, none⟩ by unfold Addr.add; split <;> simp_all, cell_of_row _ _ j _ 43 (0, 0) hvb, ← hj]
    simp
  have HN := Lib.hid hn
  clear hi hz0 hz1 hz2 hown hvb hn
  obtain ⟨n, hn⟩ : ∃ n, n = rs.length := ⟨_, rfl⟩
  rw [← hn] at hv hlen ⊢
  have HL := Lib.hid hn
  clear hn
  have hc : n ≤ c := by
    rcases HO.out.2 with ⟨h1, h2⟩ | ⟨g, cap, cur, h1, _, _, h2, _⟩
    · rw [HL.out]; omega
    · rw [hv] at h1; injection h1 with _ _ h3; rw [HL.out, h3]; exact h2
  subst hv
  by_cases hcn : c = n
  · subst c
    go_enter Try.func67, Try.ntmps67
    go_wp2_with (at_builtin; refine wpList_append_own_at _ rfl _ _ 26 rfl B 43 i0 _ 7 40 Try.underlying26 HI.out.1 HI.out.2.1 HI.out.2.2.1 HI.out.2.2.2 rfl (by decide) (.slice A n n) rs.length (rs.flatMap E.cl) rfl HO.out ⟨vb, 0, none⟩ 1 1 r.cl rfl rfl HN.out (rcl_one1 r) (by have := HL.out; unfold maxLen; omega) (by have := HL.out; omega) hB ?_; intro v' w' h1 h2 _ h4; have HZ := Lib.hid (And.intro h1 (And.intro h2 h4)); clear h1 h2 h4)
    go_ret
    refine ⟨v', rfl, ?_, HZ.out.2.1, HZ.out.2.2⟩
    have := HZ.out.1
    unfold EOwn
    rw [List.length_append, List.flatMap_append]
    simpa using this
  · go_enter Try.func67, Try.ntmps67
    go_wp2_with (at_builtin; refine wpList_append_own_at _ rfl _ _ 26 rfl B 43 i0 _ 7 40 Try.underlying26 HI.out.1 HI.out.2.1 HI.out.2.2.1 HI.out.2.2.2 rfl (by decide) (.slice A n c) rs.length (rs.flatMap E.cl) rfl HO.out ⟨vb, 0, none⟩ 1 1 r.cl rfl rfl HN.out (rcl_one1 r) (by have := HL.out; unfold maxLen; omega) (by have := HL.out; omega) hB ?_; intro v' w' h1 h2 _ h4; have HZ := Lib.hid (And.intro h1 (And.intro h2 h4)); clear h1 h2 h4)
    go_ret
    refine ⟨v', rfl, ?_, HZ.out.2.1, HZ.out.2.2⟩
    have := HZ.out.1
    unfold EOwn
    rw [List.length_append, List.flatMap_append]
    simpa using this
/-- In the middle, with room. -/
theorem ins_room (w : World) (B g cap i : Nat) (cur : List Value) (rs : List E) (r : E) (vb : Nat) (hg : w.heap[g]? = some (.cells cur.toArray 43 (0, 0))) (hBg : B ≤ g) (hcap : cap ≤ maxLen) (hsz : cur.length = cap * 7) (htk : cur.take (rs.length * 7) = rs.flatMap E.cl)
    (hvb : w.heap[vb]? = some (.cells r.cl.toArray 43 (0, 0))) (hne : vb ≠ g) (hi : i < rs.length) (hlen : rs.length ≤ 1000) (hroom : rs.length + 1 ≤ cap) :
    Calls Try.prog 67 #[.slice (some ⟨g, 0, none⟩) rs.length cap, .int .i64 (i : Int), .slice (some ⟨vb, 0, none⟩) 1 1] w (InsSaid w B (.slice (some ⟨g, 0, none⟩) rs.length cap) (rs.take i ++ r :: rs.drop i)) := by
  have hsize : (Try.prog.info? 43).map (·.size) = some 7 := by kernel_rfl
  obtain ⟨n, hn⟩ : ∃ n, rs.length = n := ⟨_, rfl⟩
  have hX : ((rs.take i).flatMap E.cl).length = i * 7 := by rw [rflat_len, List.length_take]; omega
  have hD : ((rs.drop i).flatMap E.cl).length = (n - i) * 7 := by rw [rflat_len, List.length_drop, hn]
  have hXD : (rs.take i).flatMap E.cl ++ (rs.drop i).flatMap E.cl = rs.flatMap E.cl := by rw [← List.flatMap_append, List.take_append_drop]
  have hsl := shift_list ((rs.take i).flatMap E.cl) r.cl ((rs.drop i).flatMap E.cl) cur (by rw [hX, hD, hXD, ← htk]; congr 1; omega) (by rw [hX, hD, rcl_len, hsz]; omega)
  have hins := flat_ins rs r i
  have hlins := len_ins rs r i (Nat.le_of_lt hi)
  have h1D := rcl_one (rs.drop i)
  have h1r := rcl_one1 r
  have hDt : ∀ j u, ((rs.drop i).flatMap E.cl)[j]? = some u → w.cell? ((⟨g, i * 7, none⟩ : Addr).add j) = some u := fun j u hj => by
    rw [Addr.add_lit, cell_of_row _ _ _ _ 43 (0, 0) hg]
    rw [← rflat_drop, List.getElem?_drop, ← htk, List.getElem?_take] at hj
    split at hj
    · simpa using hj
    · cases hj
  have hrt : ∀ j u, r.cl[j]? = some u → w.cell? ((⟨vb, 0, none⟩ : Addr).add j) = some u := fun j u hj => by
    rw [Addr.add_lit, Nat.zero_add, cell_of_row _ _ j _ 43 (0, 0) hvb, ← hj]
    simp
  rw [hX, hD, rcl_len, show i * 7 + 7 = (i + 1) * 7 by omega] at hsl
  generalize hDD : (rs.drop i).flatMap E.cl = D at *
  rw [hn] at htk hi hlen hroom hlins ⊢
  have hsB : w.shape? g = some (43, cap * 7) := by unfold World.shape?; rw [hg]; simp [hsz]
  have hsA : w.shape? vb = some (43, 7) := by unfold World.shape?; rw [hvb]; rfl
  have hov : ∀ lb cb, (callFunc 72 #[.slice (some ⟨vb, 0, none⟩) 1 1, .slice (some ⟨g, (i + 1) * 7, none⟩) lb cb]).run Try.prog w = .ok (.value (.bool false)) w := fun lb cb => by
    rw [run_callFunc_extern Try.func72 (by kernel_rfl) (by kernel_rfl) (by kernel_rfl) (e := Extern.SlicesOverlaps.overlaps #[26, 26] #[4]) (by kernel_rfl),
      Lib.run_overlaps_apart w 26 4 43 Try.underlying26 7 Try.sizeOf43 ⟨vb, 0, none⟩ ⟨g, (i + 1) * 7, none⟩ 1 1 lb cb hne 43 43 7 (cap * 7) hsA hsB (by omega) (frozen_of_row w vb 0 _ 43 hvb) (frozen_of_row w vb 7 _ 43 hvb)]
    rfl
  have hcp1 : ∀ ty dc sc, (Builtin.copy_ #[26, 26] ty #[.slice (some ⟨g, (i + 1) * 7, none⟩) (n + 1 - (i + 1)) dc, .slice (some ⟨g, i * 7, none⟩) (n + 1 - i) sc]).run Try.prog w.drew = .ok (goInt (n - i : Nat)) (w.drew.setRow g (splice cur ((i + 1) * 7) D).toArray) := fun ty dc sc =>
    run_copy_rowk w.drew 26 26 ty 43 7 g ((i + 1) * 7) (n + 1 - (i + 1)) dc ⟨g, i * 7, none⟩ (n + 1 - i) sc cur 43 D (n - i) Try.underlying26 hsize hg (by simp only [Nat.min_def]; split <;> omega) hD hDt (by rw [hD, hsz]; omega) h1D
  obtain ⟨W1, hW1⟩ : ∃ W1, W1 = w.drew.setRow g (splice cur ((i + 1) * 7) D).toArray := ⟨_, rfl⟩
  have hg1 : W1.heap[g]? = some (.cells (splice cur ((i + 1) * 7) D).toArray 43 (0, 0)) := by rw [hW1]; exact setRow_heap w.drew g _ _ 43 (0, 0) hg
  have hr1 : ∀ j u, r.cl[j]? = some u → W1.cell? ((⟨vb, 0, none⟩ : Addr).add j) = some u := fun j u hj => by
    rw [hW1, cell_setRow_other _ _ _ _ (by rw [Addr.add_lit]; exact hne)]
    exact hrt j u hj
  have hcp2 : ∀ ty dc, (Builtin.copy_ #[26, 26] ty #[.slice (some ⟨g, i * 7, none⟩) (n + 1 - i) dc, .slice (some ⟨vb, 0, none⟩) 1 1]).run Try.prog W1 = .ok (goInt (1 : Nat)) (W1.setRow g (splice (splice cur ((i + 1) * 7) D) (i * 7) r.cl).toArray) := fun ty dc =>
    run_copy_rowk W1 26 26 ty 43 7 g (i * 7) (n + 1 - i) dc ⟨vb, 0, none⟩ 1 1 _ 43 r.cl 1 Try.underlying26 hsize hg1 (by simp only [Nat.min_def]; split <;> omega) rfl hr1 (by rw [length_splice _ _ _ (by rw [hD, hsz]; omega), rcl_len, hsz]; omega) h1r
  rw [← hW1] at hcp1
  have hG : w.grownBy W1 (some g) := by rw [hW1]; exact ⟨rfl, rfl, rfl, (by rw [setRow_size]; exact Nat.le_refl _), fun k hk hne => setRow_other w.drew g k _ (fun e => hne (by rw [e]))⟩
  have hfin := setRow_heap W1 g _ (splice (splice cur ((i + 1) * 7) D) (i * 7) r.cl).toArray 43 (0, 0) hg1
  have hG2 := hG.trans (grown_setRow W1 g (splice (splice cur ((i + 1) * 7) D) (i * 7) r.cl).toArray)
  have HZ := Lib.hid (And.intro hsl (And.intro hins (And.intro hlins (And.intro hfin (And.intro hG2 (And.intro hcap (And.intro hBg hn)))))))
  have hin : i < n := hi
  have hin2 : ¬ ((i : Int) = (n : Int)) := by omega
  have hroom2 : ¬ ((cap : Int) < (n : Int) + 1) := by omega
  have hw1 : IntKind.i64.wrap ((i : Int) + 1) = (i : Int) + 1 := by rw [IntKind.wrap_i64]; omega
  have hw2 : IntKind.i64.wrap ((n : Int) + 1) = (n : Int) + 1 := by rw [IntKind.wrap_i64]; omega
  have mixed : Try.prog.follows Departure.mixedOrders = true := by kernel_rfl
  have hb1 : (0 : Int) ≤ (i : Int) + 1 := by omega
  have hle : i ≤ n := by omega
  have htn : ((i : Int) + 1).toNat = i + 1 := by omega
  have hb2 : ¬ (cap = i + 1) := by omega
  have hb4 : ¬ (cap = i) := by omega
  have hb3 : (i : Int) ≤ (n : Int) + 1 := by omega
  have hHS := Lib.hid (And.intro hsz (And.intro htk (And.intro hg (And.intro hvb (And.intro hX (And.intro hD (And.intro hXD (And.intro hDt hrt))))))))
  clear hsl hins hlins hfin hG2 hBg hsz htk hg hvb hX hD hXD hDt hrt hG hr1 hg1 hW1 h1D h1r hsA hsB hsize hDD
  obtain ⟨HD1, HD2⟩ := hHS.out.2.2.2.2
  clear HD1 HD2
  go_enter Try.func67, Try.ntmps67
  go_wp2_with (simp only [hov])
  go_region_law_o (refine step_copy_runI rfl _ _ 26 26 rfl (.slice (some ⟨g, (i + 1) * 7, none⟩) (n + 1 - (i + 1)) (cap - (i + 1))) (.slice (some ⟨g, i * 7, none⟩) (n + 1 - i) (cap - i)) (by simp [Act.eval, Act.put]) (by simp [Act.eval, Act.put]) (hcp1 _ _ _) ?_)
  go_wp2_with (at_builtin; refine wpList_copy_runI _ rfl _ _ 26 26 rfl (.slice (some ⟨g, i * 7, none⟩) (n + 1 - i) (cap - i)) (.slice (some ⟨vb, 0, none⟩) 1 1) rfl rfl (hcp2 _ _) ?_)
  go_ret
  refine ⟨.slice (some ⟨g, 0, none⟩) (n + 1) cap, rfl, ⟨?_, .inr ⟨g, cap, _, ?_, HZ.out.2.2.2.2.2.2.1, HZ.out.2.2.2.1, ?_, HZ.out.2.2.2.2.2.1, ?_, ?_⟩⟩, HZ.out.2.2.2.2.1, Or.inl rfl⟩
  · rw [rflat_len]
  · rw [HZ.out.2.2.1]
  · rw [HZ.out.2.2.1]; exact hroom
  · rw [List.size_toArray, HZ.out.1.2, hHS.out.1]
  · rw [HZ.out.2.2.1, HZ.out.2.1, ← HZ.out.1.1]
    congr 1
    have := HZ.out.2.2.2.2.2.2.2
    omega
theorem alloc_size (W : World) (o : Obj) : (W.alloc o).heap.size = W.heap.size + 1 := by simp
/-- In the middle, without room. -/
theorem ins_grow (w : World) (B g cap i : Nat) (cur : List Value) (rs : List E) (r : E) (vb : Nat) (hg : w.heap[g]? = some (.cells cur.toArray 43 (0, 0))) (hB : B ≤ w.heap.size) (htk : cur.take (rs.length * 7) = rs.flatMap E.cl)
    (hvb : w.heap[vb]? = some (.cells r.cl.toArray 43 (0, 0))) (hi : i < rs.length) (hlen : rs.length ≤ 1000) (hcap : rs.length ≤ cap) (hroom : cap < rs.length + 1) :
    Calls Try.prog 67 #[.slice (some ⟨g, 0, none⟩) rs.length cap, .int .i64 (i : Int), .slice (some ⟨vb, 0, none⟩) 1 1] w (InsSaid w B (.slice (some ⟨g, 0, none⟩) rs.length cap) (rs.take i ++ r :: rs.drop i)) := by
  obtain ⟨i0, hi0, hz0, hz1, hz2⟩ := info_parts info43
  have hsize : (Try.prog.info? 43).map (·.size) = some 7 := by kernel_rfl
  obtain ⟨n, hn⟩ : ∃ n, rs.length = n := ⟨_, rfl⟩
  have hX : ((rs.take i).flatMap E.cl).length = i * 7 := by rw [rflat_len, List.length_take]; omega
  have hD : ((rs.drop i).flatMap E.cl).length = (n - i) * 7 := by rw [rflat_len, List.length_drop, hn]
  have hins := flat_ins rs r i
  have hlins := len_ins rs r i (Nat.le_of_lt hi)
  have h1D := rcl_one (rs.drop i)
  have h1r := rcl_one1 r
  have hgw : g < w.heap.size := (Array.getElem?_eq_some_iff.1 hg).1
  have hvw : vb < w.heap.size := (Array.getElem?_eq_some_iff.1 hvb).1
  have hXt : ∀ j u, ((rs.take i).flatMap E.cl)[j]? = some u → w.cell? ((⟨g, 0, none⟩ : Addr).add j) = some u := fun j u hj => by
    rw [Addr.add_lit, Nat.zero_add, cell_of_row _ _ _ _ 43 (0, 0) hg]
    rw [← rflat_take, List.getElem?_take, ← htk, List.getElem?_take] at hj
    split at hj
    · split at hj
      · simpa using hj
      · cases hj
    · cases hj
  have hDt : ∀ j u, ((rs.drop i).flatMap E.cl)[j]? = some u → w.cell? ⟨g, i * 7 + j, none⟩ = some u := fun j u hj => by
    rw [cell_of_row _ _ _ _ 43 (0, 0) hg]
    rw [← rflat_drop, List.getElem?_drop, ← htk, List.getElem?_take] at hj
    split at hj
    · simpa using hj
    · cases hj
  have hrt : ∀ j u, r.cl[j]? = some u → w.cell? ⟨vb, j, none⟩ = some u := fun j u hj => by
    rw [cell_of_row _ _ j _ 43 (0, 0) hvb, ← hj]
    simp
  rw [hn] at htk hi hlen hroom hlins hcap ⊢
  generalize hXX : (rs.take i).flatMap E.cl = X at *
  generalize hDD : (rs.drop i).flatMap E.cl = D at *
  have hold : (Builtin.firstCells i0.size i (.slice (some ⟨g, 0, none⟩) i cap)).run Try.prog w.drew = .ok X.toArray w.drew := by
    rw [hz1]
    exact run_firstCells_some w.drew 7 i ⟨g, 0, none⟩ i cap X hX hXt
  have hik : i + (n + 1 - i) = n + 1 := by omega
  obtain ⟨z, hz⟩ : ∃ z : Value, z = .agg #[.int .u32 0, .int .u8 0, .int .i64 0, .int .i64 0, .int .u16 0, .int .u16 0, .int .u64 0] := ⟨_, rfl⟩
  have hzc : z.cells.size = 7 := by rw [hz]; rfl
  rw [← hz] at hz0
  have hkk : (n : Int) + 1 - (i : Int) = ((n + 1 - i : Nat) : Int) := by omega
  have hrz : ∀ ty, (Builtin.append_ #[26, 3] ty #[.slice (some ⟨g, 0, none⟩) i cap, .int .i64 ((n : Int) + 1 - (i : Int))]).run Try.prog w =
      .ok (.slice (some ⟨w.heap.size, 0, none⟩) (n + 1) (grownCap w (n + 1) cap 43)) (w.drew.alloc (.cells (X.toArray ++ Builtin.zeroCells z.cells (n + 1 - i) ++ Builtin.zeroCells z.cells (grownCap w (n + 1) cap 43 - (n + 1))) 43)) := fun ty => by
    have h := Lib.run_append_grow_zeros w 26 3 ty 43 i0 _ .i64 .i64 Try.underlying26 Try.underlying3 hi0 hz0 (some ⟨g, 0, none⟩) i cap X hold (n + 1 - i) (by omega) (by omega) (by omega) (by omega) (by rw [hz2]; omega) (by rw [hz2, hik]; exact growslice_fits (by omega) (by omega))
    rw [hik] at h
    rw [hkk]
    exact h
  obtain ⟨G, hG⟩ : ∃ G, G = grownCap w (n + 1) cap 43 := ⟨_, rfl⟩
  obtain ⟨Z, hZZ⟩ : ∃ Z : List Value, Z = (Builtin.zeroCells z.cells (n + 1 - i)).toList ++ (Builtin.zeroCells z.cells (G - (n + 1))).toList := ⟨_, rfl⟩
  have hGn : n + 1 ≤ G := by rw [hG]; exact grownCap_ge w _ _ _
  have hGm : G ≤ maxLen := by rw [hG]; exact grownCap_le_maxLen w (n + 1) cap 43 (by unfold maxLen; omega)
  have hG63 : G ≤ 9223372036854775807 := by unfold maxLen at hGm; omega
  have hZl : Z.length = (G - i) * 7 := by
    rw [hZZ, List.length_append, Array.length_toList, Array.length_toList, size_zeroCells, size_zeroCells, hzc]; omega
  have hrow : X.toArray ++ Builtin.zeroCells z.cells (n + 1 - i) ++ Builtin.zeroCells z.cells (G - (n + 1)) = (X ++ Z).toArray := by
    rw [hZZ]
    apply Array.ext'
    simp
  rw [← hG, hrow] at hrz
  have hgl := grow_list X r.cl D Z (by rw [hD, hZl, rcl_len]; omega)
  rw [hX, hD, rcl_len, show i * 7 + 7 = (i + 1) * 7 by omega] at hgl
  obtain ⟨W1, hW1⟩ : ∃ W1, W1 = w.drew.alloc (.cells (X ++ Z).toArray 43) := ⟨_, rfl⟩
  rw [← hW1] at hrz
  have hN1 : W1.heap[w.heap.size]? = some (.cells (X ++ Z).toArray 43 (0, 0)) := by rw [hW1]; exact heap_alloc_new w.drew _
  have hold1 : ∀ k, k < w.heap.size → W1.heap[k]? = w.heap[k]? := fun k hk => by rw [hW1]; exact heap_alloc_old w.drew _ hk
  have hs1 : W1.heap.size = w.heap.size + 1 := by rw [hW1]; exact alloc_size _ _
  have hcpA : ∀ ty dc, (Builtin.copy_ #[26, 26] ty #[.slice (some ⟨w.heap.size, i * 7, none⟩) (n + 1 - i) dc, .slice (some ⟨vb, 0, none⟩) 1 1]).run Try.prog W1 = .ok (goInt (1 : Nat)) (W1.setRow w.heap.size (splice (X ++ Z) (i * 7) r.cl).toArray) := fun ty dc =>
    run_copy_rowk W1 26 26 ty 43 7 w.heap.size (i * 7) (n + 1 - i) dc ⟨vb, 0, none⟩ 1 1 _ 43 r.cl 1 Try.underlying26 hsize hN1 (by simp only [Nat.min_def]; split <;> omega) rfl
      (fun j u hj => by rw [Addr.add_lit, Nat.zero_add, World.cell?_of_block (hold1 vb hvw)]; exact hrt j u hj) (by rw [List.length_append, hX, hZl, rcl_len]; omega) h1r
  obtain ⟨W2, hW2⟩ : ∃ W2, W2 = W1.setRow w.heap.size (splice (X ++ Z) (i * 7) r.cl).toArray := ⟨_, rfl⟩
  rw [← hW2] at hcpA
  have hN2 : W2.heap[w.heap.size]? = some (.cells (splice (X ++ Z) (i * 7) r.cl).toArray 43 (0, 0)) := by rw [hW2]; exact setRow_heap W1 _ _ _ 43 (0, 0) hN1
  have hold2 : ∀ k, k < w.heap.size → W2.heap[k]? = w.heap[k]? := fun k hk => by rw [hW2, setRow_other _ _ _ _ (by omega)]; exact hold1 k hk
  have hl2 : (splice (X ++ Z) (i * 7) r.cl).length = G * 7 := by rw [length_splice _ _ _ (by rw [List.length_append, hX, hZl, rcl_len]; omega), List.length_append, hX, hZl]; omega
  have hcpB : ∀ ty dc sc, (Builtin.copy_ #[26, 26] ty #[.slice (some ⟨w.heap.size, (i + 1) * 7, none⟩) (n + 1 - (i + 1)) dc, .slice (some ⟨g, i * 7, none⟩) (n - i) sc]).run Try.prog W2.drew = .ok (goInt (n - i : Nat)) (W2.drew.setRow w.heap.size (splice (splice (X ++ Z) (i * 7) r.cl) ((i + 1) * 7) D).toArray) := fun ty dc sc =>
    run_copy_rowk W2.drew 26 26 ty 43 7 w.heap.size ((i + 1) * 7) (n + 1 - (i + 1)) dc ⟨g, i * 7, none⟩ (n - i) sc _ 43 D (n - i) Try.underlying26 hsize hN2 (by simp only [Nat.min_def]; split <;> omega) hD
      (fun j u hj => by rw [Addr.add_lit]; exact (World.cell?_of_block (a := ⟨g, i * 7 + j, none⟩) (hold2 g hgw)).trans (hDt j u hj)) (by rw [hl2, hD]; omega) h1D
  have hN3 := setRow_heap W2.drew w.heap.size _ (splice (splice (X ++ Z) (i * 7) r.cl) ((i + 1) * 7) D).toArray 43 (0, 0) hN2
  have hGB : w.grownBy (W2.drew.setRow w.heap.size (splice (splice (X ++ Z) (i * 7) r.cl) ((i + 1) * 7) D).toArray) (some g) := by
    refine ⟨by rw [hW2, hW1]; rfl, by rw [hW2, hW1]; rfl, by rw [hW2, hW1]; rfl, ?_, fun k hk _ => ?_⟩
    · rw [setRow_size]
      have : W2.heap.size = w.heap.size + 1 := by rw [hW2, setRow_size]; exact hs1
      show w.heap.size ≤ W2.heap.size
      omega
    · rw [setRow_other _ _ _ _ (by omega)]
      exact hold2 k hk
  have hcapn : cap = n := by omega
  have HZ := Lib.hid (And.intro hgl (And.intro hins (And.intro hlins (And.intro hN3 (And.intro hGB (And.intro hGm (And.intro hB (And.intro hX (And.intro hZl (And.intro hGn hD))))))))))
  clear hgl hins hlins hN3 hGB hGm hB hX hZl hold hik hz hzc hz0 hz1 hz2 hi0 hkk hG hZZ hrow hN1 hold1 hs1 hN2 hold2 hl2 hXX hDD hW1 hW2 hXt hDt hrt h1D h1r htk hg hvb hsize hD
  subst hcapn
  have hin2 : ¬ ((i : Int) = (cap : Int)) := by omega
  have hw1 : IntKind.i64.wrap ((i : Int) + 1) = (i : Int) + 1 := by rw [IntKind.wrap_i64]; omega
  have hw2 : IntKind.i64.wrap ((cap : Int) + 1) = (cap : Int) + 1 := by rw [IntKind.wrap_i64]; omega
  have mixed : Try.prog.follows Departure.mixedOrders = true := by kernel_rfl
  have hb1 : (0 : Int) ≤ (i : Int) + 1 := by omega
  have hle : i ≤ cap := by omega
  have htn : ((i : Int) + 1).toNat = i + 1 := by omega
  have hb2 : ¬ (G = i + 1) := by omega
  have hb4 : ¬ (cap = i) := by omega
  have hb5 : ¬ (G = i) := by omega
  have hb3 : (i : Int) ≤ (cap : Int) + 1 := by omega
  go_enter Try.func67, Try.ntmps67
  go_wp2_with (first
    | (at_builtin; refine Lib.wpList_append_run _ rfl _ _ _ _ rfl _ _ rfl rfl _ _ (hrz _) ?_)
    | (at_builtin; refine wpList_copy_runI _ rfl _ _ 26 26 rfl (.slice (some ⟨w.heap.size, i * 7, none⟩) (cap + 1 - i) (G - i)) (.slice (some ⟨vb, 0, none⟩) 1 1) rfl rfl (hcpA _ _) ?_))
  go_region_law_o (refine step_copy_runI rfl _ _ 26 26 rfl (.slice (some ⟨w.heap.size, (i + 1) * 7, none⟩) (cap + 1 - (i + 1)) (G - (i + 1))) (.slice (some ⟨g, i * 7, none⟩) (cap - i) (cap - i)) (by simp [Act.eval, Act.put]) (by simp [Act.eval, Act.put]) (hcpB _ _ _) ?_)
  go_wp2
  go_ret
  refine ⟨.slice (some ⟨w.heap.size, 0, none⟩) (cap + 1) G, rfl, ⟨?_, .inr ⟨w.heap.size, G, _, ?_, HZ.out.2.2.2.2.2.2.1, HZ.out.2.2.2.1, ?_, HZ.out.2.2.2.2.2.1, ?_, ?_⟩⟩, HZ.out.2.2.2.2.1, Or.inr rfl⟩
  · rw [rflat_len]
  · rw [HZ.out.2.2.1]
  · rw [HZ.out.2.2.1]; exact HZ.out.2.2.2.2.2.2.2.2.2.1
  · have h1 := HZ.out.2.2.2.2.2.2.2.1
    have h2 := HZ.out.2.2.2.2.2.2.2.2.1
    rw [List.size_toArray, HZ.out.1.2, List.length_append, h1, h2]
    omega
  · rw [HZ.out.2.2.1, HZ.out.2.1, ← HZ.out.1.1]
    congr 1
    omega
end Go.Proofs.Ytkbhmdoichiinaa.Rts
