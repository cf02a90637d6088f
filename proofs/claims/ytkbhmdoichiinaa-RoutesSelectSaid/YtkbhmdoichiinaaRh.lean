/- Where something is said so of what is told; what is not thrown away. -/
import Derived.Test.YtkbhmdoichiinaaRg
import Derived.Laws.IdiomCopy
namespace Go.Proofs.Ytkbhmdoichiinaa.Rts
open Pre Ser
open Go.Proofs.Ytkbhmdoichiinaa.Src (row1 row2)
open Go.ChangeShapes Go.WideShapes Go.ChangeAt Go.RowKit
set_option maxRecDepth 8000

/-- Where p holds first; below 0: nowhere. -/
def idxV (p : E → Bool) (L : List E) : Int := if L.any p then (L.findIdx p : Int) else -1
theorem idxV_hit {p : E → Bool} {L : List E} {k : Nat} (hk : k < L.length) (hp : p L[k] = true) (h : ∀ j (hj : j < L.length), j < k → p L[j] = false) : idxV p L = (k : Int) := by
  have ha : L.any p = true := List.any_eq_true.2 ⟨_, List.getElem_mem hk, hp⟩
  unfold idxV
  rw [if_pos ha]
  congr 1
  exact (List.findIdx_eq hk).2 ⟨hp, fun j hj => h j (by omega) hj⟩
theorem idxV_miss {p : E → Bool} {L : List E} (h : ∀ j (hj : j < L.length), p L[j] = false) : idxV p L = -1 := by
  unfold idxV
  rw [if_neg]
  intro ha
  obtain ⟨x, hx, hp⟩ := List.any_eq_true.1 ha
  obtain ⟨j, hj, rfl⟩ := List.getElem_of_mem hx
  rw [h j hj] at hp; cases hp
set_option maxHeartbeats 2000000 in
theorem idxf_any (w : World) (A : Option Addr) (n c : Nat) (L : List E) (hn : n = L.length) (hlen : n ≤ 1000) (hsl : ESl w A L) (hL : ∀ e ∈ L, e.Ok) (p : E → Bool) (g xb : Nat) (eg : ∀ args w, (callFunc g args).run Try.prog w = .ok (.enter g args) w)
    (hp : ∀ (W : World) (e : E), Below w.heap.size w W → e.Ok → Calls Try.prog g #[.agg #[.int .u32 (e.a : Int), .int .u8 (e.n : Int), .int .i64 (e.b : Int), .int .i64 (e.d : Int), .int .u16 (e.s : Int), .int .u16 (e.m : Int), .int .u64 (e.u : Int)], .pointer (some ⟨xb, 0, none⟩)] W fun en w' => en = .returned (.bool (p e)) ∧ Below W.heap.size W w') :
    Calls Try.prog 60 #[.slice A n c, .func (.func g) #[] #[.pointer (some ⟨xb, 0, none⟩)]] w fun en w' => en = .returned (.int .i64 (idxV p L)) ∧ Below w.heap.size w w' := by
  have HH := Lib.hid (And.intro hn (And.intro hsl (And.intro hL hp)))
  clear hn hsl hL hp
  go_enter Try.func60, Try.ntmps60
  go_wp2
  go_loopw [5, 8] (fun _ i wr => ∃ j : Nat, j ≤ n ∧ i = .int .i64 j ∧ Hid (Below w.heap.size w wr ∧ ∀ k (hk : k < L.length), k < j → p L[k] = false)) (fun _ i _ => n - (intOf i).toNat)
  case atStart => exact ⟨0, Nat.zero_le _, rfl, Below.refl _ _, fun k hk h => absurd h (Nat.not_lt_zero _)⟩
  case round =>
    obtain ⟨j, hj, rfl, HR⟩ := hrel
    by_cases hlt : j < n
    · have hjl : j < L.length := by rw [← HH.out.1]; exact hlt
      obtain ⟨b, o, rfl, hb, hE⟩ := (HH.out.2.1.below HR.out.1) j hjl
      have hcall := HH.out.2.2.2 wr L[j] HR.out.1 (HH.out.2.2.1 _ (List.getElem_mem hjl))
      have HX := Lib.hid (fun (h : p L[j] = true) => idxV_hit hjl h HR.out.2)
      have HY := Lib.hid (fun (h : p L[j] = false) (k : Nat) (hk : k < L.length) (hkj : k < j + 1) => show p L[k] = false by
        rcases Nat.lt_or_eq_of_le (Nat.lt_succ_iff.1 hkj) with h1 | h1
        · exact HR.out.2 k hk h1
        · subst h1; exact h)
      generalize L[j] = e at hE hcall HX HY
      obtain ⟨k0, k1, k2, k3, k4, k5, k6⟩ := hE
      cases hq : p e with
      | true =>
        rw [hq] at hcall
        have HV := Lib.hid (HX.out hq)
        clear HX HY hq
        go_wp2_with (go_at_fn g; refine hcall.mono ?_; rintro en w' ⟨rfl, hb'⟩)
        go_ret
        exact ⟨by rw [HV.out]; rfl, HR.out.1.trans (hb'.mono HR.out.1.size)⟩
      | false =>
        rw [hq] at hcall
        have HV := Lib.hid (HY.out hq)
        clear HX HY hq
        go_wp2_with (go_at_fn g; refine hcall.mono ?_; rintro en w' ⟨rfl, hb'⟩)
        go_roundw
        case rel => exact ⟨j + 1, by omega, by go_num, HR.out.1.trans (hb'.mono HR.out.1.size), HV.out⟩
        case measure => simp [intOf]; omega
    · obtain rfl : j = n := by omega
      have HV := Lib.hid (idxV_miss (p := p) (L := L) fun k hk => HR.out.2 k hk (by have := HH.out.1; omega))
      go_wp2
      go_ret
      exact ⟨by rw [HV.out]; rfl, HR.out.1⟩
def zv43 : Value := .agg #[.int .u32 0, .int .u8 0, .int .i64 0, .int .i64 0, .int .u16 0, .int .u16 0, .int .u64 0]
theorem run_clear_rows (w : World) (ty g off n c : Nat) (cur : Array Value) (hg : w.heap[g]? = some (.cells cur 43 (0, 0))) (hn : 0 < n) (hfit : off + n * 7 ≤ cur.size) :
    ∃ cur', (Builtin.clear_ #[26] ty #[.slice (some ⟨g, off, none⟩) n c]).run Try.prog w = .ok (.tuple #[]) (w.setRow g cur') ∧ cur'.size = cur.size ∧ ∀ j, j < off → cur'[j]? = cur[j]? := by
  have hz : ∀ w, (zeroValue 43).run Try.prog w = .ok zv43 w := fun w => rfl
  have hs : (Builtin.zeroCells zv43.cells n).toList.length = n * 7 := by
    rw [Array.length_toList, size_zeroCells]; rfl
  have h1 : ∀ u ∈ (Builtin.zeroCells zv43.cells n).toList, u.oneCell' = true := fun u hu => by
    simp only [Builtin.zeroCells, Array.toList_map, List.mem_map] at hu
    obtain ⟨j, _, rfl⟩ := hu
    have e4 : zv43.cells.size = 7 := rfl
    rw [e4]
    have hj : j % 7 = 0 ∨ j % 7 = 1 ∨ j % 7 = 2 ∨ j % 7 = 3 ∨ j % 7 = 4 ∨ j % 7 = 5 ∨ j % 7 = 6 := by omega
    rcases hj with h | h | h | h | h | h | h <;> (rw [h]; rfl)
  have hst := run_storeCells_at Try.prog g off 43 (Builtin.zeroCells zv43.cells n).toList 0 cur w hg (by rw [hs]; simpa using hfit) h1
  simp only [Nat.add_zero] at hst
  rw [hs] at hst
  obtain ⟨k, rfl⟩ : ∃ k, n = k + 1 := ⟨n - 1, by omega⟩
  generalize hcl : (Builtin.zeroCells zv43.cells (k + 1)).toList = news at *
  refine ⟨(cur.toList.take off ++ news ++ cur.toList.drop (off + (k + 1) * 7)).toArray, ?_, ?_, fun j hj => ?_⟩
  · simp [Builtin.clear_, run_underlying Try.underlying26, hz, hcl, hst]
  · simp only [List.size_toArray, List.length_append, List.length_take, List.length_drop, Array.length_toList]
    omega
  · rw [List.getElem?_toArray, List.append_assoc, List.getElem?_append_left (by rw [List.length_take, Array.length_toList]; omega), List.getElem?_take_of_lt hj]
    simp
theorem EOwn.at_ {w : World} {B g0 n cp : Nat} {rs : List E} (h : EOwn w B (.slice (some ⟨g0, 0, none⟩) n cp) rs) {k : Nat} (hk : k < rs.length) : EAt w g0 (k * 7) rs[k] ∧ (∀ i, w.frozen? ⟨g0, i, none⟩ = false) ∧ g0 < w.heap.size := by
  obtain ⟨g, c, cur, hv, hB, hg, -, -, -, -, hE⟩ := h.rows (by omega)
  obtain ⟨rfl, -, -, -⟩ := slice_inj hv
  exact ⟨hE k hk, fun i => frozen_of_row w g0 i _ 43 hg, (Array.getElem?_eq_some_iff.1 hg).1⟩
/-- The first so many of a slice. -/
theorem EOwn.upto {w : World} {B g0 n cp : Nat} {rs : List E} (h : EOwn w B (.slice (some ⟨g0, 0, none⟩) n cp) rs) (i : Nat) (hi : i ≤ rs.length) : EOwn w B (.slice (some ⟨g0, 0, none⟩) i cp) (rs.take i) := by
  rcases h.2 with ⟨hv, _⟩ | ⟨g, cap, cur, hv, hB, hg, h1, h2, h3, h4⟩
  · cases hv
  · obtain ⟨rfl, -, -, rfl⟩ := slice_inj hv
    have hl : (rs.take i).length = i := by rw [List.length_take]; omega
    refine ⟨by rw [rflat_len], Or.inr ⟨g0, cp, cur, by rw [hl], hB, hg, by rw [hl]; omega, h2, h3, ?_⟩⟩
    rw [hl, ← rflat_take, ← h4, List.take_take, Nat.min_eq_left (Nat.mul_le_mul_right 7 hi)]
/-- Behind the first so many all is thrown away. -/
theorem clear_own (w : World) (B g n cp : Nat) (rs : List E) (h : EOwn w B (.slice (some ⟨g, 0, none⟩) n cp) rs) (i : Nat) (hi : i < rs.length) :
    ∃ w', (∀ ty, (Builtin.clear_ #[26] ty #[.slice (some ⟨g, i * 7, none⟩) (n - i) (cp - i)]).run Try.prog w = .ok (.tuple #[]) w') ∧ EOwn w' B (.slice (some ⟨g, 0, none⟩) i cp) (rs.take i) ∧ w.grownBy w' (some g) := by
  rcases h.2 with ⟨hv, _⟩ | ⟨g', cap, cur, hv, hB, hg, h1, h2, h3, h4⟩
  · cases hv
  · obtain ⟨rfl, -, rfl, rfl⟩ := slice_inj hv
    obtain ⟨cur', hr, hs, ha⟩ := run_clear_rows w 0 g (i * 7) (rs.length - i) (cp - i) cur hg (by omega) (by omega)
    have hl : (rs.take i).length = i := by rw [List.length_take]; omega
    refine ⟨w.setRow g cur', fun ty => hr, ⟨by rw [rflat_len], Or.inr ⟨g, cp, cur', by rw [hl], hB, setRow_heap w g _ _ 43 _ hg, by rw [hl]; omega, h2, by rw [hs, h3], ?_⟩⟩, ⟨rfl, rfl, rfl, by simp, fun k _ hne => setRow_other w g k _ (fun e => hne (by rw [e]))⟩⟩
    rw [hl, ← rflat_take, ← h4, List.take_take, Nat.min_eq_left (by omega)]
    apply List.ext_getElem?
    intro j
    by_cases hj : j < i * 7
    · rw [List.getElem?_take_of_lt hj, List.getElem?_take_of_lt hj]
      have := ha j hj
      simpa using this
    · rw [List.getElem?_eq_none (by rw [List.length_take]; omega), List.getElem?_eq_none (by rw [List.length_take]; omega)]
/-- How far the rewriting has come. -/
structure Del (p : E → Bool) (L M : List E) (i j : Nat) : Prop where
  len : M.length = L.length
  pre : M.take i = (L.take j).filter fun e => !p e
  suf : M.drop j = L.drop j
  lt : i < j
  le : j ≤ L.length
theorem Del.start {p : E → Bool} {L : List E} {k : Nat} (hk : k < L.length) (hp : p L[k] = true) (h : ∀ j (hj : j < L.length), j < k → p L[j] = false) : Del p L L k (k + 1) := by
  refine ⟨rfl, ?_, rfl, by omega, hk⟩
  rw [List.take_succ_eq_append_getElem hk, List.filter_append]
  have e1 : (L.take k).filter (fun e => !p e) = L.take k := List.filter_eq_self.2 fun e he => by
    obtain ⟨j, hj, rfl⟩ := List.getElem_of_mem he
    rw [List.length_take] at hj
    rw [List.getElem_take, h j (by omega) (by omega)]; rfl
  rw [e1]
  simp [hp]
theorem Del.at_ {p : E → Bool} {L M : List E} {i j : Nat} (h : Del p L M i j) (hj : j < L.length) (hm : j < M.length) : M[j] = L[j] := by
  have := congrArg (·[0]?) h.suf
  simp only [List.getElem?_drop, Nat.add_zero] at this
  rw [List.getElem?_eq_getElem hm, List.getElem?_eq_getElem hj] at this
  exact Option.some.inj this
theorem Del.gone {p : E → Bool} {L M : List E} {i j : Nat} (h : Del p L M i j) (hj : j < L.length) (hp : p L[j] = true) : Del p L M i (j + 1) := by
  refine ⟨h.len, ?_, ?_, by have := h.lt; omega, hj⟩
  · rw [List.take_succ_eq_append_getElem hj, List.filter_append, h.pre]
    simp [hp]
  · have := congrArg (List.drop 1) h.suf
    simpa [List.drop_drop] using this
theorem Del.stays {p : E → Bool} {L M : List E} {i j : Nat} (h : Del p L M i j) (hj : j < L.length) (hp : p L[j] = false) : Del p L (M.set i L[j]) (i + 1) (j + 1) := by
  have hl := h.lt
  have him : i < M.length := by rw [h.len]; omega
  refine ⟨by rw [List.length_set]; exact h.len, ?_, ?_, by omega, hj⟩
  · rw [List.take_succ_eq_append_getElem hj, List.filter_append, ← h.pre, List.take_succ_eq_append_getElem (by rw [List.length_set]; exact him), List.take_set_of_le (Nat.le_refl _), List.getElem_set_self]
    simp [hp]
  · rw [List.drop_set_of_lt (by omega)]
    have := congrArg (List.drop 1) h.suf
    simpa [List.drop_drop] using this
theorem Del.end {p : E → Bool} {L M : List E} {i : Nat} (h : Del p L M i L.length) : M.take i = L.filter fun e => !p e := by
  rw [h.pre, List.take_length]
set_option maxHeartbeats 2000000 in
theorem delf_any (w : World) (lo : Nat) (v : Value) (L : List E) (h : EOwn w lo v L) (hlen : L.length ≤ 1000) (hL : ∀ e ∈ L, e.Ok) (p : E → Bool) (f xb : Nat) (eg : ∀ args w, (callFunc f args).run Try.prog w = .ok (.enter f args) w)
    (hp : ∀ (W : World) (e : E), Fr (fun k => v.ownBlock = some k) w W → e.Ok → Calls Try.prog f #[.agg #[.int .u32 (e.a : Int), .int .u8 (e.n : Int), .int .i64 (e.b : Int), .int .i64 (e.d : Int), .int .u16 (e.s : Int), .int .u16 (e.m : Int), .int .u64 (e.u : Int)], .pointer (some ⟨xb, 0, none⟩)] W fun en w' => en = .returned (.bool (p e)) ∧ Below W.heap.size W w') :
    Calls Try.prog 65 #[v, .func (.func f) #[] #[.pointer (some ⟨xb, 0, none⟩)]] w fun en w' => ∃ v', en = .returned v' ∧ EOwn w' lo v' (L.filter fun e => !p e) ∧ Fr (fun k => v.ownBlock = some k) w w' ∧ v'.ownBlock = v.ownBlock := by
  obtain ⟨A, cp, hv, hsl, -⟩ := h.form
  have c60 := idxf_any w A L.length cp L rfl hlen hsl hL p f xb eg (fun W e hB he => hp W e (Fr.of hB) he)
  by_cases ha : ∀ j (hj : j < L.length), p L[j] = false
  · rw [idxV_miss ha] at c60
    have hfe : (L.filter fun e => !p e) = L := List.filter_eq_self.2 fun e he => by
      obtain ⟨j, hj, rfl⟩ := List.getElem_of_mem he
      rw [ha j hj]; rfl
    rw [hfe]
    rw [← hv] at c60
    have HH := Lib.hid (And.intro h c60)
    clear ha hfe hsl hL hp h c60 hv
    go_enter Try.func65, Try.ntmps65
    go_wp2_with (go_at_call 60; (with_reducible refine HH.out.2.mono ?_); rintro en w3 ⟨rfl, B3⟩; have H3 := Lib.hid B3; clear B3)
    go_ret
    exact ⟨v, rfl, HH.out.1.kept H3.out, Fr.of H3.out, rfl⟩
  · obtain ⟨k, hk, hpk, hfi⟩ : ∃ k, ∃ hk : k < L.length, p L[k] = true ∧ ∀ j (hj : j < L.length), j < k → p L[j] = false := by
      have hx : L.any p = true := by
        rw [List.any_eq_true]
        apply Classical.byContradiction
        intro hne
        exact ha fun j hj => by
          cases hq : p L[j] with
          | false => rfl
          | true => exact absurd ⟨_, List.getElem_mem hj, hq⟩ hne
      have hx2 := List.findIdx_lt_length_of_exists (p := p) (xs := L) (by obtain ⟨x, h1, h2⟩ := List.any_eq_true.1 hx; exact ⟨x, h1, h2⟩)
      exact ⟨L.findIdx p, hx2, List.findIdx_getElem (w := hx2), fun j hj hlt => by have := List.not_of_lt_findIdx hlt; simpa using this⟩
    rw [idxV_hit hk hpk hfi] at c60
    have D0 := Del.start hk hpk hfi
    obtain ⟨g, cp', cur, hv', hBg, hg, hcp, hcm, -, -, -⟩ := h.rows (by omega)
    rw [hv] at hv'
    injection hv' with e1 _ e3
    subst e1 e3
    obtain ⟨n, hn⟩ : ∃ n, n = L.length := ⟨_, rfl⟩
    have hob : ∀ k : Nat, v.ownBlock = some k ↔ k = g := fun k => by rw [hv]; exact ⟨fun e => (Option.some.inj e).symm, fun e => by rw [e]; rfl⟩
    subst hv
    rw [← hn] at hcp hlen
    have HC := Lib.hid c60
    rw [← hn] at HC
    have HG := Lib.hid (And.intro hn (And.intro hL (And.intro hp (And.intro hob (And.intro D0 h)))))
    have hkn : k < n := by omega
    have hw1 : IntKind.i64.wrap ((k : Int) + 1) = ((k + 1 : Nat) : Int) := by rw [IntKind.wrap_i64]; omega
    have hne1 : ((k : Int) == -1) = false := by simp
    clear ha hfi hpk hk D0 hg hob hL hp hsl c60 h
    rw [← hn]
    clear hn
    go_enter Try.func65, Try.ntmps65
    go_wp2_with (go_at_call 60; (with_reducible refine HC.out.mono ?_); rintro en w3 ⟨rfl, B3⟩; have H3 := Lib.hid B3; clear B3)
    clear hw1 hne1
    go_loopw [5, 6] (fun i j wr => ∃ i0 : Nat, i = .int .i64 i0 ∧ ∃ j0 : Nat, j0 ≤ n ∧ i0 < n ∧ j = .int .i64 j0 ∧ ∃ M, Hid (Del p L M i0 j0 ∧ EOwn wr lo (.slice (some ⟨g, 0, none⟩) n cp) M ∧ Fr (fun k => k = g) w wr)) (fun i j _ => n - (intOf j).toNat)
    case atStart => exact ⟨k, rfl, k + 1, hkn, hkn, by go_num, L, HG.out.2.2.2.2.1, HG.out.1 ▸ HG.out.2.2.2.2.2.kept H3.out, Fr.of H3.out⟩
    case round =>
      obtain ⟨i0, rfl, j0, hj, hin, rfl, M, HR⟩ := hrel
      by_cases hlt : j0 < n
      · have hjl : j0 < L.length := by rw [← HG.out.1]; exact hlt
        have hjm : j0 < M.length := by rw [HR.out.1.len]; exact hjl
        obtain ⟨hE, hfz, hgl⟩ := HR.out.2.1.at_ hjm
        rw [HR.out.1.at_ hjl hjm] at hE
        have heo := HG.out.2.1 _ (List.getElem_mem hjl)
        have HX := Lib.hid (fun h => HR.out.1.gone hjl h)
        have HY := Lib.hid (fun h => HR.out.1.stays hjl h)
        have him : i0 < M.length := by rw [HR.out.1.len, ← HG.out.1]; exact hin
        have hEi := (HR.out.2.1.at_ him).1
        obtain ⟨ei, hei⟩ : ∃ ei, ei = M[i0] := ⟨_, rfl⟩
        rw [← hei] at hEi
        obtain ⟨e, hee⟩ : ∃ e, e = L[j0] := ⟨_, rfl⟩
        rw [← hee] at hE heo HX HY
        have HEi := Lib.hid hEi
        clear hei hee hEi
        obtain ⟨k0, k1, k2, k3, k4, k5, k6⟩ := hE
        go_upto_region 8 with (fail)
        clear k0 k1 k2 k3 k4 k5 k6
        have hr8 := heap_alloc_new wr (.cells #[.int .u32 (e.a : Int), .int .u8 (e.n : Int), .int .i64 (e.b : Int), .int .i64 (e.d : Int), .int .u16 (e.s : Int), .int .u16 (e.m : Int), .int .u64 (e.u : Int)] 43)
        have B8 := (Below.refl wr.heap.size wr).alloc (Nat.le_refl _) (.cells #[.int .u32 (e.a : Int), .int .u8 (e.n : Int), .int .i64 (e.b : Int), .int .i64 (e.d : Int), .int .u16 (e.s : Int), .int .u16 (e.m : Int), .int .u64 (e.u : Int)] 43)
        have F8 : Fr (fun k => k = g) w (wr.alloc (.cells #[.int .u32 (e.a : Int), .int .u8 (e.n : Int), .int .i64 (e.b : Int), .int .i64 (e.d : Int), .int .u16 (e.s : Int), .int .u16 (e.m : Int), .int .u64 (e.u : Int)] 43)) := HR.out.2.2.step B8
        have hcall := HG.out.2.2.1 _ e (F8.mono fun k _ e => (HG.out.2.2.2.1 k).2 e) heo
        have H8 := Lib.hid (And.intro F8 (And.intro B8 hr8))
        clear F8 B8 hr8
        generalize wr.alloc _ = wb at *
        obtain ⟨p0, p1, p2, p3, p4, p5, p6⟩ := row7 H8.out.2.2
        cases hq : p e with
        | true =>
          rw [hq] at hcall
          have HV := Lib.hid (HX.out hq)
          clear HX HY hq
          go_wp2_with (go_at_fn f; refine hcall.mono ?_; rintro en w5 ⟨rfl, hb'⟩)
          go_roundw
          case rel => exact ⟨i0, rfl, j0 + 1, by omega, hin, by go_num, M, HV.out, (HR.out.2.1.kept H8.out.2.1).kept hb', H8.out.1.step hb'⟩
          case measure => simp [intOf]; omega
        | false =>
          rw [hq] at hcall
          have HV := Lib.hid (HY.out hq)
          clear HX HY hq
          go_upto_region 9 with (go_at_fn f; refine hcall.mono ?_; rintro en w5 ⟨rfl, hb'⟩)
          clear p0 p1 p2 p3 p4 p5 p6
          have HW5 := Lib.hid (And.intro ((HR.out.2.1.kept H8.out.2.1).kept hb') (And.intro (H8.out.1.step hb') (brow hb' H8.out.2.2)))
          have hgl5 : g < w5.heap.size := Nat.lt_of_lt_of_le hgl (Nat.le_trans H8.out.2.1.size hb'.size)
          obtain ⟨p0, p1, p2, p3, p4, p5, p6⟩ := row7 HW5.out.2.2
          obtain ⟨c0, c1, c2, c3, c4, c5, c6⟩ := HEi.out.keep ((hb'.block g (Nat.lt_of_lt_of_le hgl H8.out.2.1.size)).trans (H8.out.2.1.block g hgl))
          have hfz5 := (HW5.out.1.at_ him).2.1
          have hij := HR.out.1.lt
          have HWP := Lib.hid (And.intro (EOwn.put HW5.out.1 him e (by rfl)) (HW5.out.2.1.trans (Fr.grown (X := fun k => k = g) (grown7 w5 g (i0 * 7) (.int .u32 (e.a : Int)) (.int .u8 (e.n : Int)) (.int .i64 (e.b : Int)) (.int .i64 (e.d : Int)) (.int .u16 (e.s : Int)) (.int .u16 (e.m : Int)) (.int .u64 (e.u : Int))) (fun k e => (Option.some.inj e).symm))))
          clear hb' hfz hgl
          go_wp2
          go_roundw
          case rel => exact ⟨i0 + 1, by go_num, j0 + 1, by omega, by omega, by go_num, M.set i0 e, HV.out, HWP.out⟩
          case measure => simp [intOf]; omega
      · obtain rfl : j0 = n := by omega
        have him : i0 < M.length := by rw [HR.out.1.len, ← HG.out.1]; exact hin
        obtain ⟨w', hcl, hown, hgr⟩ := clear_own wr lo g j0 cp M HR.out.2.1 i0 him
        have hend := (HG.out.1 ▸ HR.out.1).end
        rw [hend] at hown
        have HZ := Lib.hid (And.intro hown (HR.out.2.2.trans (Fr.grown (X := fun k => k = g) hgr (fun k e => (Option.some.inj e).symm))))
        clear hown hend hgr him
        have hicp : i0 ≤ cp := by omega
        have hij2 : i0 ≤ j0 := by omega
        go_wp2
        go_ret
        exact ⟨.slice (some ⟨g, 0, none⟩) i0 cp, by rfl, HZ.out.1, HZ.out.2.mono (fun k _ e => (HG.out.2.2.2.1 k).2 e), rfl⟩
end Go.Proofs.Ytkbhmdoichiinaa.Rts
