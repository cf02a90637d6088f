/- slices.Delete of packets. -/
import Derived.Test.YteolfclkcgfelaaEb
namespace Go.Proofs.Yteolfclkcgfelaa.Eth
open Go.ChangeShapes Go.WideShapes Go.ChangeAt Go.RowKit
open Coin (Rd Own b8 Row)
set_option maxRecDepth 8000
set_option linter.unusedVariables false
variable {lo : Nat} {w : World} {q : Nat} {H : Nat → Nat → Bool} {l : List Pk} {v : Value}

/-- Cells of a row, written one behind the other. -/
def putL (cur : Array Value) : Nat → List Value → Array Value
  | _, [] => cur
  | o, v :: vs => putL (cur.setIfInBounds o v) (o + 1) vs
theorem putL_size : ∀ (vs : List Value) (o : Nat) (cur : Array Value), (putL cur o vs).size = cur.size
  | [], _, _ => rfl
  | v :: vs, o, cur => by unfold putL; rw [putL_size vs]; simp
theorem putL_at : ∀ (vs : List Value) (o : Nat) (cur : Array Value) (j : Nat), j < cur.size → (putL cur o vs)[j]? = if o ≤ j ∧ j < o + vs.length then vs[j - o]? else cur[j]?
  | [], o, cur, j, hj => by
    unfold putL
    rw [if_neg (by simp)]
  | v :: vs, o, cur, j, hj => by
    unfold putL
    rw [putL_at vs (o + 1) _ j (by simpa using hj)]
    by_cases h1 : j = o
    · subst h1
      rw [if_neg (by omega), if_pos (by simp)]
      simp [hj]
    · by_cases h2 : o + 1 ≤ j ∧ j < o + 1 + vs.length
      · rw [if_pos h2, if_pos (by simp only [List.length_cons]; omega)]
        obtain ⟨d, hd⟩ : ∃ d, j - o = d + 1 := ⟨j - o - 1, by omega⟩
        rw [hd, List.getElem?_cons_succ, show j - (o + 1) = d by omega]
      · rw [if_neg h2, if_neg (by simp only [List.length_cons]; omega), Array.getElem?_setIfInBounds_ne (fun e => h1 e.symm)]
theorem row_setCells (g : Nat) (t : TypeId) : ∀ (vs : List Value) (o : Nat) (w : World) (cur : Array Value), w.heap[g]? = some (.cells cur t (0, 0)) → (w.setCells g o vs).heap[g]? = some (.cells (putL cur o vs) t (0, 0))
  | [], _, _, _, h => h
  | v :: vs, o, w, cur, h => row_setCells g t vs (o + 1) _ _ (heap_setCell_same w g o _ t v h)
theorem grown_setCells (g : Nat) : ∀ (vs : List Value) (o : Nat) (w : World), w.grownBy (w.setCells g o vs) (some g)
  | [], _, w => World.grownBy.refl w _
  | v :: vs, o, w => (show w.grownBy (w.setCell ⟨g, o, none⟩ v) (some g) from ⟨rfl, rfl, rfl, by simp [World.setCell], fun k _ hne => heap_setCell_other w ⟨g, o, none⟩ k v (fun e => hne (by rw [e]))⟩).trans (grown_setCells g vs (o + 1) _)
def zv39 : Value := .agg #[.int .i64 0, .int .i64 0, .slice none 0 0]
theorem run_clear_rows (w : World) (ty g off n c : Nat) (cur : Array Value) (hg : w.heap[g]? = some (.cells cur 39 (0, 0))) (hn : 0 < n) (hfit : off + n * 3 ≤ cur.size) :
    ∃ cur', (Builtin.clear_ #[27] ty #[.slice (some ⟨g, off, none⟩) n c]).run Try.prog w = .ok (.tuple #[]) (w.setRow g cur') ∧ cur'.size = cur.size ∧ ∀ j, j < off → cur'[j]? = cur[j]? := by
  have hz : ∀ w, (zeroValue 39).run Try.prog w = .ok zv39 w := fun w => rfl
  have hs : (Builtin.zeroCells zv39.cells n).toList.length = n * 3 := by
    rw [Array.length_toList, size_zeroCells]; rfl
  have h1 : ∀ u ∈ (Builtin.zeroCells zv39.cells n).toList, u.oneCell' = true := fun u hu => by
    simp only [Builtin.zeroCells, Array.toList_map, List.mem_map] at hu
    obtain ⟨j, _, rfl⟩ := hu
    have e4 : zv39.cells.size = 3 := rfl
    rw [e4]
    have hj : j % 3 = 0 ∨ j % 3 = 1 ∨ j % 3 = 2 := by omega
    rcases hj with h | h | h <;> (rw [h]; rfl)
  have hst := run_storeCells_at Try.prog g off 39 (Builtin.zeroCells zv39.cells n).toList 0 cur w hg (by rw [hs]; simpa using hfit) h1
  simp only [Nat.add_zero] at hst
  rw [hs] at hst
  obtain ⟨k, rfl⟩ : ∃ k, n = k + 1 := ⟨n - 1, by omega⟩
  generalize hcl : (Builtin.zeroCells zv39.cells (k + 1)).toList = news at *
  refine ⟨(cur.toList.take off ++ news ++ cur.toList.drop (off + (k + 1) * 3)).toArray, ?_, ?_, fun j hj => ?_⟩
  · simp [Builtin.clear_, run_underlying Try.underlying27, hz, hcl, hst]
  · simp only [List.size_toArray, List.length_append, List.length_take, List.length_drop, Array.length_toList]
    omega
  · rw [List.getElem?_toArray, List.append_assoc, List.getElem?_append_left (by rw [List.length_take, Array.length_toList]; omega), List.getElem?_take_of_lt hj]
    simp
theorem info39' : ∃ i, Try.prog.info? 39 = some i ∧ i.zero = some zv39 ∧ i.size = 3 ∧ i.bytes = 40 := info_parts (by kernel_rfl)
theorem del_none (w : World) : Calls Try.prog 21 #[.slice none 0 0, .int .i64 0, .int .i64 0] w fun e w' => e = .returned (.slice none 0 0) ∧ w = w' := by
  go_enter Try.func21, Try.ntmps21
  go_wp2
  all_goals
    go_ret
    exact ⟨rfl, rfl⟩
theorem del_zero (w : World) (g n cap : Nat) (hn : n ≤ cap) (hm : cap ≤ maxLen) : Calls Try.prog 21 #[.slice (some ⟨g, 0, none⟩) n cap, .int .i64 0, .int .i64 0] w fun e w' => e = .returned (.slice (some ⟨g, 0, none⟩) n cap) ∧ w = w' := by
  unfold maxLen at hm
  go_enter Try.func21, Try.ntmps21
  go_wp2
  all_goals
    go_ret
    exact ⟨rfl, rfl⟩
set_option maxHeartbeats 2000000 in
theorem del_some (w : World) (g n cap i j : Nat) (cur : Array Value) (xs : List Value) (hg : w.heap[g]? = some (.cells cur 39 (0, 0))) (hfit : cap * 3 ≤ cur.size) (hn : n ≤ cap) (hm : cap ≤ maxLen) (hxs : cur.toList.take (n * 3) = xs) (h1 : ∀ u ∈ xs, u.oneCell' = true) (hij : i < j) (hj : j ≤ n) :
    Calls Try.prog 21 #[.slice (some ⟨g, 0, none⟩) n cap, .int .i64 (i : Int), .int .i64 (j : Int)] w fun e w' => e = .returned (.slice (some ⟨g, 0, none⟩) (i + (n - j)) cap) ∧ w.grownBy w' (some g) ∧ ∃ cur', w'.heap[g]? = some (.cells cur' 39 (0, 0)) ∧ cur'.size = cur.size ∧ cur'.toList.take ((i + (n - j)) * 3) = xs.take (i * 3) ++ xs.drop (j * 3) := by
  unfold maxLen at hm
  obtain ⟨i0, hi0, hz0, hz1, hz2⟩ := info39'
  have hxl : xs.length = n * 3 := by rw [← hxs, List.length_take, Array.length_toList]; omega
  have hxa : ∀ k, k < n * 3 → cur[k]? = xs[k]? := fun k hk => by
    rw [← hxs, List.getElem?_take_of_lt hk]
    simp
  have hnl : (xs.drop (j * 3)).length = (n - j) * 3 := by rw [List.length_drop, hxl]; omega
  have hnews : ∀ k u, (xs.drop (j * 3))[k]? = some u → w.drew.cell? ((⟨g, j * 3, none⟩ : Addr).add k) = some u := fun k u hk => by
    have hlt := (List.getElem?_eq_some_iff.1 hk).1
    rw [hnl] at hlt
    rw [List.getElem?_drop] at hk
    rw [Addr.add_lit]
    show w.cell? _ = _
    rw [cell_of_row w g (j * 3 + k) _ 39 (0, 0) hg, hxa _ (by omega), hk]
  have hone : ∀ u ∈ xs.drop (j * 3), u.oneCell' = true := fun u hu => h1 u (List.mem_of_mem_drop hu)
  have hthere : ∀ k, k < (xs.drop (j * 3)).length → (w.drew.cell? ⟨g, 0 + i * 3 + k, none⟩).isSome = true ∧ w.drew.frozen? ⟨g, 0 + i * 3 + k, none⟩ = false := fun k hk => by
    rw [hnl] at hk
    refine ⟨?_, frozen_of_row w g _ _ 39 hg⟩
    show (w.cell? _).isSome = true
    rw [cell_of_row w g (0 + i * 3 + k) _ 39 (0, 0) hg, Array.getElem?_eq_getElem (by omega)]
    rfl
  obtain ⟨W1, hW1⟩ : ∃ W1, W1 = w.drew.setCells g (0 + i * 3) (xs.drop (j * 3)) := ⟨_, rfl⟩
  have hr1 : W1.heap[g]? = some (.cells (putL cur (0 + i * 3) (xs.drop (j * 3))) 39 (0, 0)) := by rw [hW1]; exact row_setCells g 39 _ _ w.drew cur hg
  have hg1 : w.grownBy W1 (some g) := by rw [hW1]; exact (⟨rfl, rfl, rfl, Nat.le_refl _, fun _ _ _ => rfl⟩ : w.grownBy w.drew (some g)).trans (grown_setCells g _ _ _)
  have hps := putL_size (xs.drop (j * 3)) (0 + i * 3) cur
  have hpa := fun k => putL_at (xs.drop (j * 3)) (0 + i * 3) cur k
  generalize hP : putL cur (0 + i * 3) (xs.drop (j * 3)) = cur1 at *
  obtain ⟨cur2, hcl, hc2, hc3⟩ := run_clear_rows W1 0 g ((i + (n - j)) * 3) (j - i) (cap - (i + (n - j))) cur1 hr1 (by omega) (by rw [hps]; omega)
  have hcl : ∀ ty, (Builtin.clear_ #[27] ty #[.slice (some ⟨g, (i + (n - j)) * 3, none⟩) (n - (i + (n - j))) (cap - (i + (n - j)))]).run Try.prog W1 = .ok (.tuple #[]) (W1.setRow g cur2) := fun ty => by rw [show n - (i + (n - j)) = j - i by omega]; exact hcl
  have HR : Hid (w.grownBy (W1.setRow g cur2) (some g) ∧ ∃ cur', (W1.setRow g cur2).heap[g]? = some (.cells cur' 39 (0, 0)) ∧ cur'.size = cur.size ∧ cur'.toList.take ((i + (n - j)) * 3) = xs.take (i * 3) ++ xs.drop (j * 3)) := by
    refine ⟨hg1.trans ⟨rfl, rfl, rfl, by simp, fun k _ hne => setRow_other W1 g k _ (fun e => hne (by rw [e]))⟩, cur2, setRow_heap W1 g _ _ 39 _ hr1, by rw [hc2, hps], ?_⟩
    apply List.ext_getElem?
    intro k
    by_cases hk : k < (i + (n - j)) * 3
    · rw [List.getElem?_take_of_lt hk]
      have e := hc3 k hk
      have e2 := hpa k (by omega)
      have e3 : cur2.toList[k]? = cur2[k]? := by simp
      rw [e3, e, e2]
      have hti : (xs.take (i * 3)).length = i * 3 := by rw [List.length_take]; omega
      by_cases hk2 : i * 3 ≤ k
      · rw [if_pos (by rw [hnl]; omega), List.getElem?_append_right (by omega), hti, show k - (0 + i * 3) = k - i * 3 by omega]
      · rw [if_neg (by omega), List.getElem?_append_left (by omega), List.getElem?_take_of_lt (by omega), hxa k (by omega)]
    · rw [List.getElem?_eq_none (by rw [List.length_take]; omega), List.getElem?_eq_none (by rw [List.length_append, hnl, List.length_take]; omega)]
  have s1 := Lib.hid hnl
  have s2 := Lib.hid hnews
  have s3 := Lib.hid hone
  have s4 := Lib.hid hthere
  have HW := Lib.hid hW1
  have hic : i ≤ cap := by omega
  have hjn : j ≤ n := hj
  have hjc : j ≤ cap := by omega
  have hne : ¬ (i : Int) = j := by omega
  have hle : (i : Int) ≤ j := by omega
  clear hg hfit hxs h1 hxl hxa hnl hnews hone hthere hW1 hr1 hg1 hps hpa hP hc2 hc3 cur1
  by_cases hck : cap = j
  · have s2' : Hid (∀ k u, (xs.drop (j * 3))[k]? = some u → w.drew.cell? ((⟨g, 0, none⟩ : Addr).add k) = some u) := Lib.hid fun k u hk => by
      have h9 := (List.getElem?_eq_some_iff.1 hk).1
      rw [s1.out] at h9
      omega
    obtain rfl : n = cap := by omega
    subst hck
    have e0 : i + (n - n) = i := by omega
    simp only [e0] at hcl HR
    rw [e0]
    clear e0
    go_enter Try.func21, Try.ntmps21
    go_wp2_with fail
    go_region_law (refine step_append_room rfl (.tmp 22) (.tmp 25) 27 rfl 39 i0 3 Try.underlying27 hi0 hz1 g 0 i n (by simp [Act.eval, Act.put]) ⟨g, 0, none⟩ (n - n) (n - n) (xs.drop (n * 3)) (by simp [Act.eval, Act.put]) s1.out s2'.out s3.out (by omega) s4.out ?_; rw [← HW.out])
    go_wp2
    go_ret
    exact ⟨rfl, HR.out⟩
  · go_enter Try.func21, Try.ntmps21
    go_wp2_with fail
    go_region_law (refine step_append_room rfl (.tmp 22) (.tmp 25) 27 rfl 39 i0 3 Try.underlying27 hi0 hz1 g 0 i cap (by simp [Act.eval, Act.put]) ⟨g, j * 3, none⟩ (n - j) (cap - j) (xs.drop (j * 3)) (by simp [Act.eval, Act.put]) s1.out s2.out s3.out (by omega) s4.out ?_; rw [← HW.out])
    go_wp2
    go_ret
    exact ⟨rfl, HR.out⟩
def DelSaid (lo : Nat) (w : World) (v : Value) (l' : List Pk) (e : Ending) (w' : World) : Prop := ∃ v', e = .returned v' ∧ PSl lo w' v' l' ∧ v'.ownBlock = v.ownBlock ∧ w.grownBy w' v.ownBlock
/-- slices.Delete of packets. -/
theorem del_any (h : PSl lo w v l) (i j : Nat) (hij : i ≤ j) (hj : j ≤ l.length) (h0 : i = j → i = 0) : Calls Try.prog 21 #[v, .int .i64 (i : Int), .int .i64 (j : Int)] w (DelSaid lo w v (l.take i ++ l.drop j)) := by
  have hh := h
  obtain ⟨vs, rfl, h2, h3⟩ := h
  rw [List.length_map] at hj
  rcases h2.2 with ⟨rfl, hz⟩ | ⟨g, cap, cur, rfl, hB, hg, hc, hm, hs, hx⟩
  · obtain rfl : i = 0 := by omega
    obtain rfl : j = 0 := by omega
    refine (del_none w).mono ?_
    rintro e w' ⟨rfl, rfl⟩
    exact ⟨_, rfl, by simpa using hh, rfl, World.grownBy.refl w _⟩
  · rcases Nat.lt_or_eq_of_le hij with hlt | rfl
    · refine (del_some w g vs.length cap i j cur _ hg (by omega) hc hm hx (one_cl h3) hlt hj).mono ?_
      rintro e w' ⟨rfl, G, cur', hg', hs', hx'⟩
      have hl : (vs.take i ++ vs.drop j).length = i + (vs.length - j) := by rw [List.length_append, List.length_take, List.length_drop]; omega
      refine ⟨_, rfl, ⟨vs.take i ++ vs.drop j, by simp [List.map_take, List.map_drop], ⟨flat_len _, .inr ⟨g, cap, cur', by rw [hl], hB, hg', by omega, hm, by rw [hs']; exact hs, ?_⟩⟩, fun x hx => ?_⟩, rfl, G⟩
      · rw [hl, hx', flat_take, flat_drop, List.flatMap_append]
      · have hx2 : x ∈ vs := by
          rcases List.mem_append.1 hx with h | h
          · exact List.mem_of_mem_take h
          · exact List.mem_of_mem_drop h
        refine own_keep (h3 x hx2) fun b hb => ?_
        obtain ⟨_, hlt2, cur2, hc2⟩ := own_ty (h3 x hx2) hb
        refine G.block b hlt2 fun e => ?_
        cases e
        rw [hg] at hc2; injection hc2 with hc2; injection hc2 with _ h5 _; cases h5
    · obtain rfl := h0 rfl
      refine (del_zero w g vs.length cap hc hm).mono ?_
      rintro e w' ⟨rfl, rfl⟩
      exact ⟨_, rfl, by simpa using hh, rfl, World.grownBy.refl w _⟩
end Go.Proofs.Yteolfclkcgfelaa.Eth
