/- The law's own same: is a shelf the document's? -/
import Derived.Test.YtkalgonkaoiapaaRge
import Derived.Deep.DeepCutAuto
import Derived.Sort.Walk0
import Derived.Laws.Cover1
namespace Go.Proofs.Ytkalgonkaoiapaa.Shf
open Go.ChangeShapes Go.WideShapes Go.ChangeAt Go.RowKit

theorem on_rep (w : World) (T : Nat → Tag) (q : Nat) (m : M) (R : Rep w T q m) : Calls Try.prog 22 #[.pointer (some ⟨q, 0, none⟩)] w fun e w' => e = .returned (.bool (!m.fallen)) ∧ w = w' := by
  obtain ⟨⟨nv, sv, mv, nn, ns, RV⟩, F⟩ := R
  exact on_any w q m nv sv mv RV.sh
theorem done_rep (w : World) (T : Nat → Tag) (q : Nat) (m : M) (R : Rep w T q m) : Calls Try.prog 21 #[.pointer (some ⟨q, 0, none⟩)] w fun e w' => e = .returned (.int .i64 (m.done : Int)) ∧ w = w' := by
  obtain ⟨⟨nv, sv, mv, nn, ns, RV⟩, F⟩ := R
  exact done_any w q m nv sv mv RV.sh
theorem rd_lt {w : World} {A : Option Addr} {l : List UInt8} (h : Rd w A l) (h0 : 0 < l.length) (ad : Addr) (e : A = some ad) : ad.block < w.heap.size := by
  obtain ⟨ad', e', hc⟩ := h h0
  rw [e] at e'
  injection e' with e'
  subst e'
  have := block_lt_of_cell (hc 0 h0)
  rwa [block_add] at this
/-- Names in order, each once. -/
theorem srt (l : List S) (hn : l.Nodup) (L : List S) (hL : L = l.mergeSort (fun x y => decide (x ≤ y))) : ∀ k (h : k + 1 < L.length), Op.bytesLess (L[k]) (L[k+1]) = true := by
  intro k h
  have hs : L.Pairwise (fun x y => decide (x ≤ y) = true) := hL ▸ List.pairwise_mergeSort (by
    intro a b c h1 h2
    simp only [decide_eq_true_eq] at *
    exact List.le_trans h1 h2) (by
    intro a b
    simp only [Bool.or_eq_true, decide_eq_true_eq]
    exact List.le_total a b) l
  have hnd : L.Nodup := hL ▸ (List.mergeSort_perm l _).nodup_iff.2 hn
  have h1 := List.pairwise_iff_getElem.1 hs k (k+1) (by omega) h (by omega)
  have h2 := List.pairwise_iff_getElem.1 (List.nodup_iff_pairwise_ne.1 hnd) k (k+1) (by omega) h (by omega)
  simp only [decide_eq_true_eq] at h1
  rw [Go.Proofs.bytesLess_eq]
  simp only [decide_eq_true_eq]
  rcases Decidable.em (L[k] < L[k + 1]) with h | h
  · exact h
  · exact absurd (List.le_antisymm h1 (List.not_lt.1 h)) h2
theorem Sim.list {T : Nat → Tag} {m : M} {x : X} {f : Nat → Nat} (h : Sim T m x f) (F : Fine m) : m.list.length = x.now.length ∧ (∀ k (hk : k + 1 < m.list.length), Op.bytesLess m.list[k] m.list[k + 1] = true) ∧
    ∀ k (hk : k < m.list.length), ∃ i, get x.now m.list[k] = some i := by
  have e : m.list = (m.now.map (·.1)).mergeSort (fun x y => decide (x ≤ y)) := by unfold M.list; rw [h.live.2]; rfl
  have hg : Good m.now := by
    have := F.good m.moves.length (Nat.le_refl _)
    rw [List.take_length, ← F.now] at this
    exact this
  refine ⟨?_, srt _ hg.keys _ e, fun k hk => ?_⟩
  · rw [e, (List.mergeSort_perm _ _).length_eq, List.length_map, h.now]
    simp [bl]
  · have hm : m.list[k] ∈ m.now.map (·.1) := by
      refine (List.mergeSort_perm _ (fun x y => decide (x ≤ y))).mem_iff.1 ?_
      rw [← e]
      exact List.getElem_mem hk
    obtain ⟨p, hp, hpe⟩ := List.mem_map.1 hm
    have := h.got m.list[k]
    rw [← hpe] at this ⊢
    cases hgx : get x.now p.1 with
    | some i => exact ⟨i, rfl⟩
    | none =>
      rw [hgx] at this
      exact absurd hp (get_none.1 this p.2)
theorem Sim.read {T : Nat → Tag} {m : M} {x : X} {f : Nat → Nat} (h : Sim T m x f) (G : x.Good) {s : S} {i : Nat} (hg : get x.now s = some i) : i < x.L.length ∧ m.readE s = 0 ∧ m.readP s = (x.L.getD i ([], 0)).1 := by
  have hi : i < x.L.length := G.now _ (got_mem hg)
  have hm := h.got s
  rw [hg] at hm
  unfold M.readE M.readP
  rw [h.live.2, hm]
  exact ⟨hi, rfl, h.fl i hi⟩
/-- A file of the other shelf in memory. -/
theorem RX.file {w : World} {U : Nat → Tag} {v lv nv wv : Value} {x : X} {fs : List (Value × Int)} {ws : List Value} (h : RX w U v x lv nv wv fs ws) {A1 : Option Addr} {n1 c1 : Nat} (e : lv = .slice A1 n1 c1) {i : Nat} (hi : i < x.L.length) :
    n1 = x.L.length ∧ ∃ g1 Ap cp, A1 = some ⟨g1, 0, none⟩ ∧ g1 < w.heap.size ∧ w.cell? ⟨g1, i * 2, none⟩ = some (.slice Ap (x.L.getD i ([], 0)).1.length cp) ∧ Rd w Ap (x.L.getD i ([], 0)).1 ∧ (0 < (x.L.getD i ([], 0)).1.length → ∀ ad, Ap = some ad → ad.block < w.heap.size) := by
  have hl := h.by_.len
  have hif : i < fs.length := by omega
  obtain ⟨A, c, e1, _, _, h3, h4⟩ := h.fl
  rw [e] at e1
  injection e1 with e1 e2 e3
  subst e1 e3
  obtain ⟨g1, eg, h5, _, h6⟩ := h4 (by rw [h3]; omega)
  have hb := h.by_.at i hif hi
  obtain ⟨⟨Ap, cp, hv, _, _, _, hb4⟩, _⟩ := hb
  have eL : x.L.getD i ([], 0) = x.L[i] := by rw [List.getD_eq_getElem?_getD, List.getElem?_eq_getElem hi]; rfl
  rw [eL]
  have hc := h6 _ _ (filL_at fs i hif).1
  rw [hv] at hc
  refine ⟨by omega, g1, Ap, cp, eg, h5, hc, fun h0 => ?_, fun h0 ad ea => ?_⟩
  · obtain ⟨gp, e7, _, _, h8⟩ := hb4 (by simpa using h0)
    refine ⟨_, e7, fun j hj => ?_⟩
    rw [zero_add']
    exact h8 j _ (by simp [hj])
  · obtain ⟨gp, e7, h9, _, _⟩ := hb4 (by simpa using h0)
    rw [e7] at ea
    injection ea with ea
    rw [← ea]
    exact h9
set_option maxRecDepth 8000 in
set_option maxHeartbeats 4000000 in
theorem same_any (w : World) (T U : Nat → Tag) (q : Nat) (m : M) (v : Value) (x : X) (f : Nat → Nat) (i : Nat) (R : Rep w T q m) (RXv : RXE w U v x) (Sm : Sim T m x f) (I : x.Inv i) (hi : i ≤ 100) (hd : m.done ≤ 1000) (hz : get x.now zN = none) (hs : ∀ p ∈ x.now, p.1.length ≤ 3) :
    Calls Try.prog 19 #[.pointer (some ⟨q, 0, none⟩), v] w fun e w' => e = .returned (.bool true) ∧ Below w.heap.size w w' := by
  have hU := Sm.used R.2 I.good
  have hRXv := RXv
  obtain ⟨lv, nv, wv, fs, ws, RR⟩ := RXv
  have hwl := RR.ol.len
  obtain ⟨A1, c1, e1, -⟩ := RR.fl
  obtain ⟨A2, c2, e2, -⟩ := RR.nm
  obtain ⟨A3, c3, e3, -⟩ := RR.wa
  have hv := RR.eq
  rw [e1, e2, e3, Sm.off, ← Sm.done] at hv
  unfold RfV at hv
  obtain ⟨nL, hnL⟩ : ∃ n, n = fs.length := ⟨_, rfl⟩
  obtain ⟨nN, hnN⟩ : ∃ n, n = x.now.length := ⟨_, rfl⟩
  obtain ⟨nW, hnW⟩ : ∃ n, n = ws.length := ⟨_, rfl⟩
  obtain ⟨nM, hnM⟩ : ∃ n, n = m.moves.length := ⟨_, rfl⟩
  obtain ⟨nD, hnD⟩ : ∃ n, n = m.done := ⟨_, rfl⟩
  obtain ⟨nU, hnU⟩ : ∃ n, n = x.used := ⟨_, rfl⟩
  obtain ⟨room, hroom⟩ : ∃ n, n = x.room := ⟨_, rfl⟩
  obtain ⟨left, hleft⟩ : ∃ n, n = x.left := ⟨_, rfl⟩
  rw [← hnL, ← hnN, ← hnW, ← hnD, ← hroom, ← hleft] at hv
  rw [← hnL] at e1
  subst hv
  have HW : Hid ((nW : Int) - 1 = (nM : Int) ∧ IntKind.i64.wrap (nM : Int) = (nM : Int)) := by
    have h1 := Sm.len
    have h2 : m.moves.length ≤ m.done := by
      obtain ⟨⟨nv, sv, mv, nn, ns, RV⟩, _⟩ := R
      have := RV.bns
      omega
    refine ⟨?_, ?_⟩
    · show (nW : Int) - 1 = (nM : Int)
      omega
    · rw [IntKind.wrap_i64]
      omega
  have HM := Lib.hid hnM
  have HD := Lib.hid hnD
  have B1 : Below w.heap.size w (w.alloc (.cells #[.slice A1 nL c1, .slice A2 nN c2, .slice A3 nW c3, .int .i64 room, .int .i64 left, .bool false, .int .i64 (nD : Int)] 35)) := (Below.refl _ w).alloc (Nat.le_refl _) _
  have N1 := heap_alloc_new w (.cells #[.slice A1 nL c1, .slice A2 nN c2, .slice A3 nW c3, .int .i64 room, .int .i64 left, .bool false, .int .i64 (nD : Int)] 35)
  have HU : Hid (m.named + m.gone = nU ∧ ∀ W, Below (w.alloc (.cells #[.slice A1 nL c1, .slice A2 nN c2, .slice A3 nW c3, .int .i64 room, .int .i64 left, .bool false, .int .i64 (nD : Int)] 35)).heap.size (w.alloc (.cells #[.slice A1 nL c1, .slice A2 nN c2, .slice A3 nW c3, .int .i64 room, .int .i64 left, .bool false, .int .i64 (nD : Int)] 35)) W → Calls Try.prog 48 #[.agg #[.slice A1 nL c1, .slice A2 nN c2, .slice A3 nW c3, .int .i64 room, .int .i64 left, .bool false, .int .i64 (nD : Int)]] W fun e w' => e = .returned (.int .i64 (nU : Nat)) ∧ Below W.heap.size W w') :=
    ⟨by rw [hnU]; exact hU, fun W hW => by
      rw [hnU]
      exact xused_any W U _ x ((hRXv.keep (Shf.Below.keep B1 U)).keep (Shf.Below.keep hW U)) (by have := I.fl; omega) (by have := I.was; omega) (fun p hp => by have := I.sh p hp; omega) (fun l hl => by have := I.wl l hl; omega)⟩
  have HN : Hid ((w.alloc (.cells #[.slice A1 nL c1, .slice A2 nN c2, .slice A3 nW c3, .int .i64 room, .int .i64 left, .bool false, .int .i64 (nD : Int)] 35)).heap[w.heap.size]? = some (.cells #[.slice A1 nL c1, .slice A2 nN c2, .slice A3 nW c3, .int .i64 room, .int .i64 left, .bool false, .int .i64 (nD : Int)] 35) ∧ w.heap.size < (w.alloc (.cells #[.slice A1 nL c1, .slice A2 nN c2, .slice A3 nW c3, .int .i64 room, .int .i64 left, .bool false, .int .i64 (nD : Int)] 35)).heap.size ∧ Rep (w.alloc (.cells #[.slice A1 nL c1, .slice A2 nN c2, .slice A3 nW c3, .int .i64 room, .int .i64 left, .bool false, .int .i64 (nD : Int)] 35)) T q m ∧ m.fallen = false) := ⟨N1, by simp, R.below B1, Sm.live.2⟩
  obtain ⟨hl1, hl2, hl3⟩ := Sm.list R.2
  have hsm : ∀ s ∈ m.list, s.length ≤ 3 := fun s hs' => by
    obtain ⟨k, hk, rfl⟩ := List.getElem_of_mem hs'
    obtain ⟨j, hj⟩ := hl3 k hk
    exact hs _ (mem_get hj)
  have hzE : m.readE zN = 2 := by
    unfold M.readE
    rw [Sm.live.2, Sm.got, hz]
    rfl
  have HRD : Hid (∀ s i, get x.now s = some i → i < x.L.length ∧ m.readE s = 0 ∧ m.readP s = (x.L.getD i ([], 0)).1) := fun s i hg => Sm.read I.good hg
  have HX := Lib.hid (And.intro (RR.keep (Shf.Below.keep B1 U)) e1)
  have HB := Lib.hid B1
  have HI := Lib.hid (show nN ≤ 100 by have := I.now; omega)
  have HNM : Hid (∀ W, Below (w.alloc (.cells #[.slice A1 nL c1, .slice A2 nN c2, .slice A3 nW c3, .int .i64 room, .int .i64 left, .bool false, .int .i64 (nD : Int)] 35)).heap.size (w.alloc (.cells #[.slice A1 nL c1, .slice A2 nN c2, .slice A3 nW c3, .int .i64 room, .int .i64 left, .bool false, .int .i64 (nD : Int)] 35)) W → RNm W U (.slice A2 nN c2) x.now) := fun W hW => by
    have h := ((RR.nm.keep (Shf.Below.keep B1 U)).keep (Shf.Below.keep hW U))
    rw [e2, ← hnN] at h
    exact h
  have HL : Hid (m.list.length = nN ∧ (∀ k (hk : k + 1 < m.list.length), Op.bytesLess m.list[k] m.list[k + 1] = true) ∧ (∀ k (hk : k < m.list.length), ∃ i, get x.now m.list[k] = some i) ∧ (∀ s ∈ m.list, s.length ≤ 3) ∧ m.readE zN = 2) := ⟨by rw [hl1, hnN], hl2, hl3, hsm, hzE⟩
  have HNN := Lib.hid (And.intro hnN hd)
  clear hl1 hl2 hl3 hsm hzE hU hRXv RR hwl e1 e2 e3 hnL hnN hnW hnM hnD hnU hroom hleft R Sm I hz hs B1 N1 hd
  go_enter Try.func19, Try.ntmps19
  go_upto_region 1 with (fail)
  generalize w.alloc (.cells #[.slice A1 nL c1, .slice A2 nN c2, .slice A3 nW c3, .int .i64 room, .int .i64 left, .bool false, .int .i64 (nD : Int)] 35) = w1 at *
  refine wp_region_noPanic ?_
  refine wp_region_held_drew (S := fun y : World => Below w1.heap.size w1 y) (by kernel_rfl) (Below.refl _ _).drew (fun hHeld => ?_)
  generalize w1.drew = wd at *
  refine wpAnyH_take (i := 0) (oi := { dst := some 14, op := Op.move (Operand.tmp 0), type := 25, pos := "law.go:85", after := #[], guard := none }) (v := .pointer (some ⟨q, 0, none⟩)) rfl (by kernel_rfl) (by kernel_rfl) (by kernel_rfl) (fun _ _ _ h => h) (Or.inl ⟨by rfl, fun w hSw => by go_simp⟩) (by assumption) ?_
  try simp only [Act.put, List.setIfInBounds_toArray, List.set_cons_zero, List.set_cons_succ]
  refine wpAnyH_take (i := 2) (oi := { dst := some 16, op := Op.fieldAddr 35 (Operand.tmp 3) 5, type := 0, pos := "law.go:85", after := #[], guard := none }) (v := .pointer (some ⟨w.heap.size, 5, none⟩)) rfl (by kernel_rfl) (by kernel_rfl) (by kernel_rfl) (fun _ _ _ h => h) (Or.inl ⟨by rfl, fun w hSw => by go_simp⟩) (by assumption) ?_
  try simp only [Act.put, List.setIfInBounds_toArray, List.set_cons_zero, List.set_cons_succ]
  refine wpAnyH_take (i := 3) (oi := { dst := some 17, op := Op.load 4 (Operand.tmp 16), type := 4, pos := "law.go:85", after := #[{ on := 2, ground := Ground.data }], guard := none }) (v := .bool false) rfl (by kernel_rfl) (by kernel_rfl) (by kernel_rfl) (fun _ _ _ h => h) (Or.inl ⟨by rfl, fun w hSw => by obtain ⟨p0, p1, p2, p3, p4, p5, p6, -⟩ := row7 ((hSw.block _ HN.out.2.1).trans HN.out.1); go_simp⟩) (by assumption) ?_
  try simp only [Act.put, List.setIfInBounds_toArray, List.set_cons_zero, List.set_cons_succ]
  refine wpAnyH_ready (rs := [1]) (by kernel_rfl) (by simp) ?_
  refine AllReadyH.cons (o := { dst := some 15, op := Op.call { callee := Callee.value (Operand.func 22), args := #[Operand.tmp 14], argTypes := #[25] }, type := 4, pos := "law.go:85", after := #[{ on := 0, ground := Ground.data }], guard := none }) rfl (fun K hK => ?_) AllReadyH.nil
  go_simp
  refine (on_rep _ T q m (HN.out.2.2.1.below hHeld)).mono ?_
  rintro e w2 ⟨rfl, rfl⟩
  rw [HN.out.2.2.2]
  refine hK.out _ _ (hHeld) (fun hHeld => ?_)
  clear hK K
  try simp only [Act.put, List.setIfInBounds_toArray, List.set_cons_zero, List.set_cons_succ]
  refine wpAnyH_take (i := 4) (oi := { dst := some 18, op := Op.binOp BinOp.eql 4 (Operand.tmp 15) (Operand.tmp 17) 4, type := 4, pos := "law.go:85", after := #[{ on := 1, ground := Ground.data }, { on := 3, ground := Ground.data }], guard := none }) (v := .bool false) rfl (by kernel_rfl) (by kernel_rfl) (by kernel_rfl) (fun _ _ _ h => h) (Or.inl ⟨by rfl, fun w hSw => by go_simp⟩) (by assumption) ?_
  try simp only [Act.put, List.setIfInBounds_toArray, List.set_cons_zero, List.set_cons_succ]
  refine wpAnyH_take (i := 5) (oi := { dst := some 19, op := Op.move (Operand.tmp 18), type := 4, pos := "law.go:85", after := #[{ on := 4, ground := Ground.data }, { on := 1, ground := Ground.chain }], guard := none }) (v := .bool false) rfl (by kernel_rfl) (by kernel_rfl) (by kernel_rfl) (fun _ _ _ h => h) (Or.inl ⟨by rfl, fun w hSw => by go_simp⟩) (by assumption) ?_
  try simp only [Act.put, List.setIfInBounds_toArray, List.set_cons_zero, List.set_cons_succ]
  refine wpAnyH_take (i := 6) (oi := { dst := some 20, op := Op.move (Operand.tmp 0), type := 25, pos := "law.go:85", after := #[{ on := 5, ground := Ground.guard }], guard := some (5, false) }) (v := .pointer (some ⟨q, 0, none⟩)) rfl (by kernel_rfl) (by kernel_rfl) (by kernel_rfl) (fun _ _ _ h => h) (Or.inl ⟨by rfl, fun w hSw => by go_simp⟩) (by assumption) ?_
  try simp only [Act.put, List.setIfInBounds_toArray, List.set_cons_zero, List.set_cons_succ]
  refine wpAnyH_take (i := 8) (oi := { dst := some 22, op := Op.load 35 (Operand.tmp 3), type := 35, pos := "law.go:85", after := #[{ on := 5, ground := Ground.guard }], guard := some (5, false) }) (v := .agg #[.slice A1 nL c1, .slice A2 nN c2, .slice A3 nW c3, .int .i64 room, .int .i64 left, .bool false, .int .i64 (nD : Int)]) rfl (by kernel_rfl) (by kernel_rfl) (by kernel_rfl) (fun _ _ _ h => h) (Or.inl ⟨by rfl, fun w hSw => by obtain ⟨p0, p1, p2, p3, p4, p5, p6, -⟩ := row7 ((hSw.block _ HN.out.2.1).trans HN.out.1); go_simp⟩) (by assumption) ?_
  try simp only [Act.put, List.setIfInBounds_toArray, List.set_cons_zero, List.set_cons_succ]
  refine wpAnyH_ready (rs := [7]) (by kernel_rfl) (by simp) ?_
  refine AllReadyH.cons (o := { dst := some 21, op := Op.call { callee := Callee.value (Operand.func 30), args := #[Operand.tmp 20], argTypes := #[25] }, type := 3, pos := "law.go:85", after := #[{ on := 6, ground := Ground.data }, { on := 5, ground := Ground.chain }, { on := 5, ground := Ground.guard }], guard := some (5, false) }) rfl (fun K hK => ?_) AllReadyH.nil
  go_simp
  refine (used_rep _ T q m (HN.out.2.2.1.below hHeld)).mono ?_
  rintro e w2 ⟨rfl, n2, rfl⟩
  rw [HU.out.1]
  refine hK.out _ _ (hHeld.trans ⟨rfl, rfl, rfl, Nat.le_refl _, fun _ _ => rfl⟩) (fun hHeld => ?_)
  clear hK K
  try simp only [Act.put, List.setIfInBounds_toArray, List.set_cons_zero, List.set_cons_succ]
  refine wpAnyH_ready (rs := [9]) (by kernel_rfl) (by simp) ?_
  refine AllReadyH.cons (o := { dst := some 23, op := Op.call { callee := Callee.value (Operand.func 48), args := #[Operand.tmp 22], argTypes := #[35] }, type := 3, pos := "law.go:85", after := #[{ on := 8, ground := Ground.data }, { on := 7, ground := Ground.chain }, { on := 5, ground := Ground.guard }], guard := some (5, false) }) rfl (fun K hK => ?_) AllReadyH.nil
  go_simp
  refine ((HU.out.2 _ hHeld)).mono ?_
  rintro e w3 ⟨rfl, B3⟩
  refine hK.out _ _ (hHeld.trans (B3.mono hHeld.size)) (fun hHeld => ?_)
  clear hK K
  try simp only [Act.put, List.setIfInBounds_toArray, List.set_cons_zero, List.set_cons_succ]
  clear B3
  refine wpAnyH_take (i := 10) (oi := { dst := some 24, op := Op.binOp BinOp.neq 3 (Operand.tmp 21) (Operand.tmp 23) 3, type := 4, pos := "law.go:85", after := #[{ on := 7, ground := Ground.data }, { on := 9, ground := Ground.data }, { on := 5, ground := Ground.guard }], guard := some (5, false) }) (v := .bool false) rfl (by kernel_rfl) (by kernel_rfl) (by kernel_rfl) (fun _ _ _ h => h) (Or.inl ⟨by rfl, fun w hSw => by go_simp⟩) (by assumption) ?_
  try simp only [Act.put, List.setIfInBounds_toArray, List.set_cons_zero, List.set_cons_succ]
  refine wpAnyH_take (i := 11) (oi := { dst := some 25, op := Op.pick (Operand.tmp 19) (Operand.const (Value.bool true)) (Operand.tmp 24), type := 4, pos := "law.go:85", after := #[{ on := 5, ground := Ground.data }, { on := 10, ground := Ground.data }], guard := none }) (v := .bool false) rfl (by kernel_rfl) (by kernel_rfl) (by kernel_rfl) (fun _ _ _ h => h) (Or.inl ⟨by rfl, fun w hSw => by go_simp⟩) (by assumption) ?_
  try simp only [Act.put, List.setIfInBounds_toArray, List.set_cons_zero, List.set_cons_succ]
  refine wpAnyH_take (i := 12) (oi := { dst := some 26, op := Op.move (Operand.tmp 25), type := 4, pos := "law.go:85", after := #[{ on := 11, ground := Ground.data }, { on := 9, ground := Ground.chain }], guard := none }) (v := .bool false) rfl (by kernel_rfl) (by kernel_rfl) (by kernel_rfl) (fun _ _ _ h => h) (Or.inl ⟨by rfl, fun w hSw => by go_simp⟩) (by assumption) ?_
  try simp only [Act.put, List.setIfInBounds_toArray, List.set_cons_zero, List.set_cons_succ]
  refine wpAnyH_take (i := 13) (oi := { dst := some 27, op := Op.move (Operand.tmp 0), type := 25, pos := "law.go:85", after := #[{ on := 12, ground := Ground.guard }], guard := some (12, false) }) (v := .pointer (some ⟨q, 0, none⟩)) rfl (by kernel_rfl) (by kernel_rfl) (by kernel_rfl) (fun _ _ _ h => h) (Or.inl ⟨by rfl, fun w hSw => by go_simp⟩) (by assumption) ?_
  try simp only [Act.put, List.setIfInBounds_toArray, List.set_cons_zero, List.set_cons_succ]
  refine wpAnyH_take (i := 15) (oi := { dst := some 29, op := Op.fieldAddr 35 (Operand.tmp 3) 6, type := 0, pos := "law.go:85", after := #[{ on := 12, ground := Ground.guard }], guard := some (12, false) }) (v := .pointer (some ⟨w.heap.size, 6, none⟩)) rfl (by kernel_rfl) (by kernel_rfl) (by kernel_rfl) (fun _ _ _ h => h) (Or.inl ⟨by rfl, fun w hSw => by go_simp⟩) (by assumption) ?_
  try simp only [Act.put, List.setIfInBounds_toArray, List.set_cons_zero, List.set_cons_succ]
  refine wpAnyH_take (i := 16) (oi := { dst := some 30, op := Op.load 3 (Operand.tmp 29), type := 3, pos := "law.go:85", after := #[{ on := 15, ground := Ground.data }, { on := 12, ground := Ground.guard }], guard := some (12, false) }) (v := .int .i64 (nD : Int)) rfl (by kernel_rfl) (by kernel_rfl) (by kernel_rfl) (fun _ _ _ h => h) (Or.inl ⟨by rfl, fun w hSw => by obtain ⟨p0, p1, p2, p3, p4, p5, p6, -⟩ := row7 ((hSw.block _ HN.out.2.1).trans HN.out.1); go_simp⟩) (by assumption) ?_
  try simp only [Act.put, List.setIfInBounds_toArray, List.set_cons_zero, List.set_cons_succ]
  refine wpAnyH_ready (rs := [14]) (by kernel_rfl) (by simp) ?_
  refine AllReadyH.cons (o := { dst := some 28, op := Op.call { callee := Callee.value (Operand.func 21), args := #[Operand.tmp 27], argTypes := #[25] }, type := 3, pos := "law.go:85", after := #[{ on := 13, ground := Ground.data }, { on := 12, ground := Ground.chain }, { on := 12, ground := Ground.guard }], guard := some (12, false) }) rfl (fun K hK => ?_) AllReadyH.nil
  go_simp
  refine (done_rep _ T q m (HN.out.2.2.1.below hHeld)).mono ?_
  rintro e w4 ⟨rfl, rfl⟩
  rw [← HD.out]
  refine hK.out _ _ (hHeld) (fun hHeld => ?_)
  clear hK K
  try simp only [Act.put, List.setIfInBounds_toArray, List.set_cons_zero, List.set_cons_succ]
  refine wpAnyH_take (i := 17) (oi := { dst := some 31, op := Op.binOp BinOp.neq 3 (Operand.tmp 28) (Operand.tmp 30) 3, type := 4, pos := "law.go:85", after := #[{ on := 14, ground := Ground.data }, { on := 16, ground := Ground.data }, { on := 12, ground := Ground.guard }], guard := some (12, false) }) (v := .bool false) rfl (by kernel_rfl) (by kernel_rfl) (by kernel_rfl) (fun _ _ _ h => h) (Or.inl ⟨by rfl, fun w hSw => by go_simp⟩) (by assumption) ?_
  try simp only [Act.put, List.setIfInBounds_toArray, List.set_cons_zero, List.set_cons_succ]
  refine wpAnyH_take (i := 18) (oi := { dst := some 32, op := Op.pick (Operand.tmp 26) (Operand.const (Value.bool true)) (Operand.tmp 31), type := 4, pos := "law.go:85", after := #[{ on := 12, ground := Ground.data }, { on := 17, ground := Ground.data }], guard := none }) (v := .bool false) rfl (by kernel_rfl) (by kernel_rfl) (by kernel_rfl) (fun _ _ _ h => h) (Or.inl ⟨by rfl, fun w hSw => by go_simp⟩) (by assumption) ?_
  try simp only [Act.put, List.setIfInBounds_toArray, List.set_cons_zero, List.set_cons_succ]
  refine wpAnyH_take (i := 19) (oi := { dst := some 33, op := Op.move (Operand.tmp 32), type := 4, pos := "law.go:85", after := #[{ on := 18, ground := Ground.data }, { on := 14, ground := Ground.chain }], guard := none }) (v := .bool false) rfl (by kernel_rfl) (by kernel_rfl) (by kernel_rfl) (fun _ _ _ h => h) (Or.inl ⟨by rfl, fun w hSw => by go_simp⟩) (by assumption) ?_
  try simp only [Act.put, List.setIfInBounds_toArray, List.set_cons_zero, List.set_cons_succ]
  refine wpAnyH_take (i := 20) (oi := { dst := some 34, op := Op.move (Operand.tmp 0), type := 25, pos := "law.go:85", after := #[{ on := 19, ground := Ground.guard }], guard := some (19, false) }) (v := .pointer (some ⟨q, 0, none⟩)) rfl (by kernel_rfl) (by kernel_rfl) (by kernel_rfl) (fun _ _ _ h => h) (Or.inl ⟨by rfl, fun w hSw => by go_simp⟩) (by assumption) ?_
  try simp only [Act.put, List.setIfInBounds_toArray, List.set_cons_zero, List.set_cons_succ]
  refine wpAnyH_take (i := 22) (oi := { dst := some 36, op := Op.fieldAddr 35 (Operand.tmp 3) 2, type := 0, pos := "law.go:85", after := #[{ on := 19, ground := Ground.guard }], guard := some (19, false) }) (v := .pointer (some ⟨w.heap.size, 2, none⟩)) rfl (by kernel_rfl) (by kernel_rfl) (by kernel_rfl) (fun _ _ _ h => h) (Or.inl ⟨by rfl, fun w hSw => by go_simp⟩) (by assumption) ?_
  try simp only [Act.put, List.setIfInBounds_toArray, List.set_cons_zero, List.set_cons_succ]
  refine wpAnyH_take (i := 23) (oi := { dst := some 37, op := Op.load 33 (Operand.tmp 36), type := 33, pos := "law.go:85", after := #[{ on := 22, ground := Ground.data }, { on := 19, ground := Ground.guard }], guard := some (19, false) }) (v := .slice A3 nW c3) rfl (by kernel_rfl) (by kernel_rfl) (by kernel_rfl) (fun _ _ _ h => h) (Or.inl ⟨by rfl, fun w hSw => by obtain ⟨p0, p1, p2, p3, p4, p5, p6, -⟩ := row7 ((hSw.block _ HN.out.2.1).trans HN.out.1); go_simp⟩) (by assumption) ?_
  try simp only [Act.put, List.setIfInBounds_toArray, List.set_cons_zero, List.set_cons_succ]
  refine wpAnyH_take (i := 24) (oi := { dst := some 38, op := Op.call { callee := Callee.builtin Builtin.len, args := #[Operand.tmp 37], argTypes := #[33] }, type := 3, pos := "law.go:85", after := #[{ on := 23, ground := Ground.data }, { on := 19, ground := Ground.guard }], guard := some (19, false) }) (v := .int .i64 (nW : Int)) rfl (by kernel_rfl) (by kernel_rfl) (by kernel_rfl) (fun _ _ _ h => h) (Or.inl ⟨by rfl, fun w hSw => by go_simp⟩) (by assumption) ?_
  try simp only [Act.put, List.setIfInBounds_toArray, List.set_cons_zero, List.set_cons_succ]
  refine wpAnyH_take (i := 25) (oi := { dst := some 39, op := Op.binOp BinOp.sub 3 (Operand.tmp 38) (Operand.const (Value.int IntKind.i64 1)) 3, type := 3, pos := "law.go:85", after := #[{ on := 24, ground := Ground.data }, { on := 19, ground := Ground.guard }], guard := some (19, false) }) (v := .int .i64 (nM : Int)) rfl (by kernel_rfl) (by kernel_rfl) (by kernel_rfl) (fun _ _ _ h => h) (Or.inl ⟨by rfl, fun w hSw => by have hmw := HW.out.1; have hmz := HW.out.2; go_simp⟩) (by assumption) ?_
  try simp only [Act.put, List.setIfInBounds_toArray, List.set_cons_zero, List.set_cons_succ]
  refine wpAnyH_ready (rs := [21]) (by kernel_rfl) (by simp) ?_
  refine AllReadyH.cons (o := { dst := some 35, op := Op.call { callee := Callee.value (Operand.func 31), args := #[Operand.tmp 34], argTypes := #[25] }, type := 3, pos := "law.go:85", after := #[{ on := 20, ground := Ground.data }, { on := 19, ground := Ground.chain }, { on := 19, ground := Ground.guard }], guard := some (19, false) }) rfl (fun K hK => ?_) AllReadyH.nil
  go_simp
  refine (moves_rep _ T q m (HN.out.2.2.1.below hHeld)).mono ?_
  rintro e w5 ⟨rfl, rfl⟩
  rw [← HM.out]
  refine hK.out _ _ (hHeld) (fun hHeld => ?_)
  clear hK K
  try simp only [Act.put, List.setIfInBounds_toArray, List.set_cons_zero, List.set_cons_succ]
  refine wpAnyH_take (i := 26) (oi := { dst := some 40, op := Op.binOp BinOp.neq 3 (Operand.tmp 35) (Operand.tmp 39) 3, type := 4, pos := "law.go:85", after := #[{ on := 21, ground := Ground.data }, { on := 25, ground := Ground.data }, { on := 19, ground := Ground.guard }], guard := some (19, false) }) (v := .bool false) rfl (by kernel_rfl) (by kernel_rfl) (by kernel_rfl) (fun _ _ _ h => h) (Or.inl ⟨by rfl, fun w hSw => by go_simp⟩) (by assumption) ?_
  try simp only [Act.put, List.setIfInBounds_toArray, List.set_cons_zero, List.set_cons_succ]
  refine wpAnyH_take (i := 27) (oi := { dst := some 41, op := Op.pick (Operand.tmp 33) (Operand.const (Value.bool true)) (Operand.tmp 40), type := 4, pos := "law.go:85", after := #[{ on := 19, ground := Ground.data }, { on := 26, ground := Ground.data }], guard := none }) (v := .bool false) rfl (by kernel_rfl) (by kernel_rfl) (by kernel_rfl) (fun _ _ _ h => h) (Or.inl ⟨by rfl, fun w hSw => by go_simp⟩) (by assumption) ?_
  try simp only [Act.put, List.setIfInBounds_toArray, List.set_cons_zero, List.set_cons_succ]
  refine wpAnyH_done (by kernel_rfl) ?_ _
  try unfold NoPanic
  have HH := Lib.hid hHeld
  clear hHeld
  obtain ⟨p0, p1, p2, p3, p4, p5, p6, -⟩ := row7 ((HH.out.block _ HN.out.2.1).trans HN.out.1)
  go_upto_region 4 with (go_at_call 29; (with_reducible refine (list_rep _ T q m (HN.out.2.2.1.below HH.out) (by have := HNN.out.2; omega)).mono ?_); rintro e w3 ⟨v3, rfl, S3, B3⟩; obtain ⟨A5, c5, hv3, hs3⟩ := strs_at S3; rw [HL.out.1] at hv3; subst hv3; have HS3 := Lib.hid hs3; have HB3 := Lib.hid (HH.out.trans (B3.mono HH.out.size)); clear S3 B3 hs3)
  clear p0 p1 p2 p3 p4 p5 p6
  obtain ⟨p0, p1, p2, p3, p4, p5, p6, -⟩ := row7 ((HB3.out.block _ HN.out.2.1).trans HN.out.1)
  go_wp2
  go_loopw [8] (fun i wr => ∃ k : Nat, k ≤ nN ∧ i = .int .i64 k ∧ Hid (Below w3.heap.size w3 wr)) (fun i _ => nN - (intOf i).toNat)
  case atStart => exact ⟨0, Nat.zero_le _, rfl, Below.refl _ _⟩
  case round =>
    obtain ⟨k, hk, rfl, HR⟩ := hrel
    clear p0 p1 p2 p3 p4 p5 p6
    by_cases hlt : k < nN
    · have hlt' : (k : Int) < nN := by omega
      have hkb : nN ≤ 100 := HI.out
      have hkl : k < m.list.length := by rw [HL.out.1]; exact hlt
      obtain ⟨b5, e5, hb5, hb6, hc5⟩ := HS3.out k hkl
      subst e5
      obtain ⟨fi, hfi⟩ := HL.out.2.2.1 k hkl
      obtain ⟨hfl, hE, hP⟩ := HRD.out _ _ hfi
      obtain ⟨en, g1, Ap, cp, eg, hg1, hgc, hrp, hlp⟩ := HX.out.1.file HX.out.2 hfl
      subst eg
      have HBR := Lib.hid (HB3.out.trans (HR.out.mono HB3.out.size))
      have c18 := read_rep wr T q m m.list[k] (HN.out.2.2.1.below HBR.out) (by have := HL.out.2.2.2.1 _ (List.getElem_mem hkl); omega)
      rw [hE, hP] at c18
      have c49 := fun (W : World) (hW : Below w1.heap.size w1 W) => find_any W U _ x.now m.list[k] (HNM.out W hW) (by have := HNN.out.1; have := HI.out; omega)
      have hfI : findI x.now m.list[k] = (fi : Int) := by unfold findI; rw [hfi]
      rw [hfI] at c49
      obtain ⟨p, hp⟩ : ∃ p, p = (x.L.getD fi ([], 0)).1 := ⟨_, rfl⟩
      rw [← hp] at hgc hrp hlp c18
      obtain ⟨lp, hlpe⟩ : ∃ n, n = p.length := ⟨_, rfl⟩
      rw [← hlpe] at hgc hlp
      have hfn : fi < nL := by omega
      have hfn' : (fi : Int) < nL := by omega
      have hcw := (HR.out.cell (p := ⟨b5, k, none⟩) hb6).trans hc5
      have hcs := HL.out.2.1
      obtain ⟨nm, hnm⟩ : ∃ n, n = str m.list[k] := ⟨_, rfl⟩
      rw [← hnm] at c18 hcw c49
      have HNM2 := Lib.hid hnm
      have HC18 := Lib.hid c18
      have HC49 := Lib.hid c49
      have HLPE := Lib.hid hlpe
      have HGC := Lib.hid (And.intro hgc (And.intro hrp (And.intro hlp hg1)))
      clear hfl hE hP hgc hrp hlp c18 c49 hfI hp hlpe hcs hnm en hg1 hc5 hb5
      go_upto_region 13 with (go_at_call 18; (with_reducible refine HC18.out.mono ?_); rintro e w4 ⟨v9, rfl, ⟨O9, -⟩, B4⟩; obtain ⟨A9, c9, hv9, r9, -, -, -⟩ := O9.form; rw [← HLPE.out] at hv9; subst hv9; have HR9 := Lib.hid r9; have HB4' := Lib.hid B4; clear O9 B4 r9)
      have HB4 := Lib.hid (HBR.out.trans (HB4'.out.mono HBR.out.size))
      have HC4 := Lib.hid (And.intro (show b5 < w4.heap.size by have h1 := HR.out.size; have h2 := HB4'.out.size; omega) ((HB4'.out.cell (p := ⟨b5, k, none⟩) (by have h1 := HR.out.size; show b5 < _; omega)).trans hcw))
      have HF4 : Hid (∀ W, Below w4.heap.size w4 W → Calls Try.prog 49 #[.slice A2 nN c2, .string nm] W fun e w' => e = .returned (.int .i64 (fi : Int)) ∧ W = w') := fun W hW => HC49.out W (HB4.out.trans (hW.mono HB4.out.size))
      clear hcw
      refine wp_region_noPanic ?_
      refine wp_region_held_drew (S := fun y : World => Below w4.heap.size w4 y) (by kernel_rfl) (Below.refl _ _).drew (fun hHeld => ?_)
      generalize w4.drew = wd at *
      refine wpAnyH_take (i := 0) (oi := { dst := some 79, op := Op.fieldAddr 35 (Operand.tmp 3) 1, type := 0, pos := "law.go:98", after := #[], guard := none }) (v := .pointer (some ⟨w.heap.size, 1, none⟩)) rfl (by kernel_rfl) (by kernel_rfl) (by kernel_rfl) (fun _ _ _ h => h) (Or.inl ⟨by rfl, fun w hSw => by go_simp⟩) (by assumption) ?_
      try simp only [Act.put, List.setIfInBounds_toArray, List.set_cons_zero, List.set_cons_succ]
      refine wpAnyH_take (i := 1) (oi := { dst := some 80, op := Op.load 32 (Operand.tmp 79), type := 32, pos := "law.go:98", after := #[{ on := 0, ground := Ground.data }], guard := none }) (v := .slice A2 nN c2) rfl (by kernel_rfl) (by kernel_rfl) (by kernel_rfl) (fun _ _ _ h => h) (Or.inl ⟨by rfl, fun w hSw => by have hSw := HB4.out.trans (hSw.mono HB4.out.size); obtain ⟨p0, p1, p2, p3, p4, p5, p6, -⟩ := row7 ((hSw.block _ HN.out.2.1).trans HN.out.1); go_simp⟩) (by assumption) ?_
      try simp only [Act.put, List.setIfInBounds_toArray, List.set_cons_zero, List.set_cons_succ]
      refine wpAnyH_take (i := 2) (oi := { dst := some 81, op := Op.move (Operand.tmp 5), type := 52, pos := "law.go:98", after := #[], guard := none }) (v := .slice (some ⟨b5, 0, none⟩) nN c5) rfl (by kernel_rfl) (by kernel_rfl) (by kernel_rfl) (fun _ _ _ h => h) (Or.inl ⟨by rfl, fun w hSw => by go_simp⟩) (by assumption) ?_
      try simp only [Act.put, List.setIfInBounds_toArray, List.set_cons_zero, List.set_cons_succ]
      refine wpAnyH_take (i := 3) (oi := { dst := some 82, op := Op.move (Operand.tmp 8), type := 3, pos := "law.go:98", after := #[], guard := none }) (v := .int .i64 (k : Int)) rfl (by kernel_rfl) (by kernel_rfl) (by kernel_rfl) (fun _ _ _ h => h) (Or.inl ⟨by rfl, fun w hSw => by go_simp⟩) (by assumption) ?_
      try simp only [Act.put, List.setIfInBounds_toArray, List.set_cons_zero, List.set_cons_succ]
      refine wpAnyH_take (i := 4) (oi := { dst := some 83, op := Op.indexAddr 52 (Operand.tmp 81) (Operand.tmp 82), type := 0, pos := "law.go:98", after := #[{ on := 2, ground := Ground.data }, { on := 3, ground := Ground.data }], guard := none }) (v := .pointer (some ⟨b5, k, none⟩)) rfl (by kernel_rfl) (by kernel_rfl) (by kernel_rfl) (fun _ _ _ h => h) (Or.inl ⟨by rfl, fun w hSw => by go_simp⟩) (by assumption) ?_
      try simp only [Act.put, List.setIfInBounds_toArray, List.set_cons_zero, List.set_cons_succ]
      refine wpAnyH_take (i := 5) (oi := { dst := some 84, op := Op.load 9 (Operand.tmp 83), type := 9, pos := "law.go:98", after := #[{ on := 4, ground := Ground.data }], guard := none }) (v := .string nm) rfl (by kernel_rfl) (by kernel_rfl) (by kernel_rfl) (fun _ _ _ h => h) (Or.inl ⟨by rfl, fun w hSw => by have hc := (hSw.cell (p := ⟨b5, k, none⟩) HC4.out.1).trans HC4.out.2; go_simp⟩) (by assumption) ?_
      try simp only [Act.put, List.setIfInBounds_toArray, List.set_cons_zero, List.set_cons_succ]
      refine wpAnyH_ready (rs := [6]) (by kernel_rfl) (by simp) ?_
      refine AllReadyH.cons (o := { dst := some 85, op := Op.call { callee := Callee.value (Operand.func 49), args := #[Operand.tmp 80, Operand.tmp 84], argTypes := #[32, 9] }, type := 3, pos := "law.go:98", after := #[{ on := 1, ground := Ground.data }, { on := 5, ground := Ground.data }], guard := none }) rfl (fun K hK => ?_) AllReadyH.nil
      go_simp
      refine (HF4.out _ hHeld).mono ?_
      rintro e w5 ⟨rfl, rfl⟩
      refine hK.out _ _ (hHeld) (fun hHeld => ?_)
      clear hK K
      try simp only [Act.put, List.setIfInBounds_toArray, List.set_cons_zero, List.set_cons_succ]
      refine wpAnyH_take (i := 7) (oi := { dst := some 11, op := Op.assign (Operand.tmp 85), type := 3, pos := "law.go:98", after := #[{ on := 6, ground := Ground.data }, { on := 6, ground := Ground.chain }, { on := 0, ground := Ground.phase }, { on := 1, ground := Ground.phase }, { on := 2, ground := Ground.phase }, { on := 3, ground := Ground.phase }, { on := 4, ground := Ground.phase }, { on := 5, ground := Ground.phase }, { on := 6, ground := Ground.phase }], guard := none }) (v := .int .i64 (fi : Int)) rfl (by kernel_rfl) (by kernel_rfl) (by kernel_rfl) (fun _ _ _ h => h) (Or.inl ⟨by rfl, fun w hSw => by go_simp⟩) (by assumption) ?_
      try simp only [Act.put, List.setIfInBounds_toArray, List.set_cons_zero, List.set_cons_succ]
      refine wpAnyH_done (by kernel_rfl) ?_ _
      try unfold NoPanic
      obtain ⟨pv, hpv⟩ : ∃ n, n = str p := ⟨_, rfl⟩
      have HV9 : Hid (∀ W, Below w4.heap.size w4 W → (convert 22 9 (.slice A9 lp c9)).run Try.prog W = .ok (.string pv) W) := fun W hW => by
        rw [hpv]
        exact conv_any (w := W) (HR9.out.at (fun ad e h0 => hW.block _ (rd_lt HR9.out h0 ad e))) lp c9 HLPE.out
      have HFB : Hid ((∀ W, Below w4.heap.size w4 W → W.cell? ⟨g1, fi * 2, none⟩ = some (.slice Ap lp cp)) ∧ (∀ W, Below w4.heap.size w4 W → (convert 22 9 (.slice Ap lp cp)).run Try.prog W = .ok (.string pv) W)) := by
        refine ⟨fun W hW => ?_, fun W hW => ?_⟩
        · have hb := HB4.out.trans (hW.mono HB4.out.size)
          exact (hb.cell (p := ⟨g1, fi * 2, none⟩) HGC.out.2.2.2).trans HGC.out.1
        · have hb := HB4.out.trans (hW.mono HB4.out.size)
          rw [hpv]
          exact conv_any (w := W) (HGC.out.2.1.at (fun ad e h0 => hb.block _ (HGC.out.2.2.1 (by rw [HLPE.out]; exact h0) ad e))) lp cp HLPE.out
      clear hpv
      go_upto_region 14 with (fail)
      by_cases h0 : 0 < k
      · obtain ⟨km, hkm⟩ : ∃ n, k = n + 1 := ⟨k - 1, by omega⟩
        have hkm1 : (k : Int) - 1 = (km : Int) := by omega
        have hkm2 : (km : Int) < nN := by omega
        have h0' : (0 : Int) < k := by omega
        obtain ⟨nk, hnk⟩ : ∃ n, n = str (m.list[km]'(by omega)) := ⟨_, rfl⟩
        have HKM : Hid (b5 < w4.heap.size ∧ w4.cell? ⟨b5, km, none⟩ = some (.string nk) ∧ Op.bytesLess nk.toList nm.toList = true ∧ IntKind.i64.wrap (km : Int) = (km : Int)) := by
          refine ⟨HC4.out.1, ?_, ?_, by rw [IntKind.wrap_i64]; omega⟩
          · obtain ⟨b', e', _, _, hc'⟩ := HS3.out km (by omega)
            injection e' with e'
            injection e' with e' _ _
            subst e'
            rw [hnk]
            exact ((HR.out.trans (HB4'.out.mono HR.out.size)).cell (p := ⟨b5, km, none⟩) hb6).trans hc'
          · rw [hnk, HNM2.out, str_toList, str_toList]
            have := HL.out.2.1 km (by omega)
            subst hkm
            exact this
        clear hnk hkm
        refine wp_region_noPanic ?_
        refine wp_region_held_drew (S := fun y : World => Below w4.heap.size w4 y) (by kernel_rfl) (hHeld.drew) (fun hHeld => ?_)
        generalize wd.drew = we at *
        refine wpAnyH_take (i := 0) (oi := { dst := some 86, op := Op.move (Operand.tmp 11), type := 3, pos := "law.go:99", after := #[], guard := none }) (v := .int .i64 (fi : Int)) rfl (by kernel_rfl) (by kernel_rfl) (by kernel_rfl) (fun _ _ _ h => h) (Or.inl ⟨by rfl, fun w hSw => by go_simp⟩) (by assumption) ?_
        try simp only [Act.put, List.setIfInBounds_toArray, List.set_cons_zero, List.set_cons_succ]
        refine wpAnyH_take (i := 1) (oi := { dst := some 87, op := Op.binOp BinOp.lss 3 (Operand.tmp 86) (Operand.const (Value.int IntKind.i64 0)) 3, type := 4, pos := "law.go:99", after := #[{ on := 0, ground := Ground.data }], guard := none }) (v := .bool false) rfl (by kernel_rfl) (by kernel_rfl) (by kernel_rfl) (fun _ _ _ h => h) (Or.inl ⟨by rfl, fun w hSw => by go_simp⟩) (by assumption) ?_
        try simp only [Act.put, List.setIfInBounds_toArray, List.set_cons_zero, List.set_cons_succ]
        refine wpAnyH_take (i := 2) (oi := { dst := some 88, op := Op.move (Operand.tmp 87), type := 4, pos := "law.go:99", after := #[{ on := 1, ground := Ground.data }], guard := none }) (v := .bool false) rfl (by kernel_rfl) (by kernel_rfl) (by kernel_rfl) (fun _ _ _ h => h) (Or.inl ⟨by rfl, fun w hSw => by go_simp⟩) (by assumption) ?_
        try simp only [Act.put, List.setIfInBounds_toArray, List.set_cons_zero, List.set_cons_succ]
        refine wpAnyH_take (i := 3) (oi := { dst := some 89, op := Op.move (Operand.tmp 10), type := 27, pos := "law.go:99", after := #[{ on := 2, ground := Ground.guard }], guard := some (2, false) }) (v := .int .i64 0) rfl (by kernel_rfl) (by kernel_rfl) (by kernel_rfl) (fun _ _ _ h => h) (Or.inl ⟨by rfl, fun w hSw => by go_simp⟩) (by assumption) ?_
        try simp only [Act.put, List.setIfInBounds_toArray, List.set_cons_zero, List.set_cons_succ]
        refine wpAnyH_take (i := 4) (oi := { dst := some 90, op := Op.binOp BinOp.neq 27 (Operand.tmp 89) (Operand.const (Value.int IntKind.i64 0)) 27, type := 4, pos := "law.go:99", after := #[{ on := 3, ground := Ground.data }, { on := 2, ground := Ground.guard }], guard := some (2, false) }) (v := .bool false) rfl (by kernel_rfl) (by kernel_rfl) (by kernel_rfl) (fun _ _ _ h => h) (Or.inl ⟨by rfl, fun w hSw => by go_simp⟩) (by assumption) ?_
        try simp only [Act.put, List.setIfInBounds_toArray, List.set_cons_zero, List.set_cons_succ]
        refine wpAnyH_take (i := 5) (oi := { dst := some 91, op := Op.pick (Operand.tmp 88) (Operand.const (Value.bool true)) (Operand.tmp 90), type := 4, pos := "law.go:99", after := #[{ on := 2, ground := Ground.data }, { on := 4, ground := Ground.data }], guard := none }) (v := .bool false) rfl (by kernel_rfl) (by kernel_rfl) (by kernel_rfl) (fun _ _ _ h => h) (Or.inl ⟨by rfl, fun w hSw => by go_simp⟩) (by assumption) ?_
        try simp only [Act.put, List.setIfInBounds_toArray, List.set_cons_zero, List.set_cons_succ]
        refine wpAnyH_take (i := 6) (oi := { dst := some 92, op := Op.move (Operand.tmp 91), type := 4, pos := "law.go:99", after := #[{ on := 5, ground := Ground.data }, { on := 2, ground := Ground.chain }], guard := none }) (v := .bool false) rfl (by kernel_rfl) (by kernel_rfl) (by kernel_rfl) (fun _ _ _ h => h) (Or.inl ⟨by rfl, fun w hSw => by go_simp⟩) (by assumption) ?_
        try simp only [Act.put, List.setIfInBounds_toArray, List.set_cons_zero, List.set_cons_succ]
        refine wpAnyH_take (i := 7) (oi := { dst := some 93, op := Op.move (Operand.tmp 9), type := 22, pos := "law.go:99", after := #[{ on := 6, ground := Ground.guard }], guard := some (6, false) }) (v := .slice A9 lp c9) rfl (by kernel_rfl) (by kernel_rfl) (by kernel_rfl) (fun _ _ _ h => h) (Or.inl ⟨by rfl, fun w hSw => by go_simp⟩) (by assumption) ?_
        try simp only [Act.put, List.setIfInBounds_toArray, List.set_cons_zero, List.set_cons_succ]
        refine wpAnyH_take (i := 8) (oi := { dst := some 94, op := Op.convert 22 9 (Operand.tmp 93), type := 9, pos := "law.go:99", after := #[{ on := 7, ground := Ground.data }, { on := 6, ground := Ground.guard }], guard := some (6, false) }) (v := .string pv) rfl (by kernel_rfl) (by kernel_rfl) (by kernel_rfl) (fun _ _ _ h => h) (Or.inl ⟨by rfl, fun w hSw => by have hc := HV9.out _ hSw; go_simp⟩) (by assumption) ?_
        try simp only [Act.put, List.setIfInBounds_toArray, List.set_cons_zero, List.set_cons_succ]
        refine wpAnyH_take (i := 9) (oi := { dst := some 95, op := Op.fieldAddr 35 (Operand.tmp 3) 0, type := 0, pos := "law.go:99", after := #[{ on := 6, ground := Ground.guard }], guard := some (6, false) }) (v := .pointer (some ⟨w.heap.size, 0, none⟩)) rfl (by kernel_rfl) (by kernel_rfl) (by kernel_rfl) (fun _ _ _ h => h) (Or.inl ⟨by rfl, fun w hSw => by go_simp⟩) (by assumption) ?_
        try simp only [Act.put, List.setIfInBounds_toArray, List.set_cons_zero, List.set_cons_succ]
        refine wpAnyH_take (i := 10) (oi := { dst := some 96, op := Op.load 31 (Operand.tmp 95), type := 31, pos := "law.go:99", after := #[{ on := 9, ground := Ground.data }, { on := 6, ground := Ground.guard }], guard := some (6, false) }) (v := .slice (some ⟨g1, 0, none⟩) nL c1) rfl (by kernel_rfl) (by kernel_rfl) (by kernel_rfl) (fun _ _ _ h => h) (Or.inl ⟨by rfl, fun w hSw => by have hSw := HB4.out.trans (hSw.mono HB4.out.size); obtain ⟨p0, p1, p2, p3, p4, p5, p6, -⟩ := row7 ((hSw.block _ HN.out.2.1).trans HN.out.1); go_simp⟩) (by assumption) ?_
        try simp only [Act.put, List.setIfInBounds_toArray, List.set_cons_zero, List.set_cons_succ]
        refine wpAnyH_take (i := 11) (oi := { dst := some 97, op := Op.move (Operand.tmp 11), type := 3, pos := "law.go:99", after := #[{ on := 6, ground := Ground.guard }], guard := some (6, false) }) (v := .int .i64 (fi : Int)) rfl (by kernel_rfl) (by kernel_rfl) (by kernel_rfl) (fun _ _ _ h => h) (Or.inl ⟨by rfl, fun w hSw => by go_simp⟩) (by assumption) ?_
        try simp only [Act.put, List.setIfInBounds_toArray, List.set_cons_zero, List.set_cons_succ]
        refine wpAnyH_take (i := 12) (oi := { dst := some 98, op := Op.indexAddr 31 (Operand.tmp 96) (Operand.tmp 97), type := 0, pos := "law.go:99", after := #[{ on := 10, ground := Ground.data }, { on := 11, ground := Ground.data }, { on := 6, ground := Ground.guard }], guard := some (6, false) }) (v := .pointer (some ⟨g1, fi * 2, none⟩)) rfl (by kernel_rfl) (by kernel_rfl) (by kernel_rfl) (fun _ _ _ h => h) (Or.inl ⟨by rfl, fun w hSw => by go_simp⟩) (by assumption) ?_
        try simp only [Act.put, List.setIfInBounds_toArray, List.set_cons_zero, List.set_cons_succ]
        refine wpAnyH_take (i := 13) (oi := { dst := some 99, op := Op.fieldAddr 83 (Operand.tmp 98) 0, type := 0, pos := "law.go:99", after := #[{ on := 12, ground := Ground.data }, { on := 6, ground := Ground.guard }], guard := some (6, false) }) (v := .pointer (some ⟨g1, fi * 2, none⟩)) rfl (by kernel_rfl) (by kernel_rfl) (by kernel_rfl) (fun _ _ _ h => h) (Or.inl ⟨by rfl, fun w hSw => by go_simp⟩) (by assumption) ?_
        try simp only [Act.put, List.setIfInBounds_toArray, List.set_cons_zero, List.set_cons_succ]
        refine wpAnyH_take (i := 14) (oi := { dst := some 100, op := Op.load 22 (Operand.tmp 99), type := 22, pos := "law.go:99", after := #[{ on := 13, ground := Ground.data }, { on := 6, ground := Ground.guard }], guard := some (6, false) }) (v := .slice Ap lp cp) rfl (by kernel_rfl) (by kernel_rfl) (by kernel_rfl) (fun _ _ _ h => h) (Or.inl ⟨by rfl, fun w hSw => by have hc := HFB.out.1 _ hSw; go_simp⟩) (by assumption) ?_
        try simp only [Act.put, List.setIfInBounds_toArray, List.set_cons_zero, List.set_cons_succ]
        refine wpAnyH_take (i := 15) (oi := { dst := some 101, op := Op.convert 22 9 (Operand.tmp 100), type := 9, pos := "law.go:99", after := #[{ on := 14, ground := Ground.data }, { on := 6, ground := Ground.guard }], guard := some (6, false) }) (v := .string pv) rfl (by kernel_rfl) (by kernel_rfl) (by kernel_rfl) (fun _ _ _ h => h) (Or.inl ⟨by rfl, fun w hSw => by have hc := HFB.out.2 _ hSw; go_simp⟩) (by assumption) ?_
        try simp only [Act.put, List.setIfInBounds_toArray, List.set_cons_zero, List.set_cons_succ]
        refine wpAnyH_take (i := 16) (oi := { dst := some 102, op := Op.binOp BinOp.neq 9 (Operand.tmp 94) (Operand.tmp 101) 9, type := 4, pos := "law.go:99", after := #[{ on := 8, ground := Ground.data }, { on := 15, ground := Ground.data }, { on := 6, ground := Ground.guard }], guard := some (6, false) }) (v := .bool false) rfl (by kernel_rfl) (by kernel_rfl) (by kernel_rfl) (fun _ _ _ h => h) (Or.inl ⟨by rfl, fun w hSw => by go_simp⟩) (by assumption) ?_
        try simp only [Act.put, List.setIfInBounds_toArray, List.set_cons_zero, List.set_cons_succ]
        refine wpAnyH_take (i := 17) (oi := { dst := some 103, op := Op.pick (Operand.tmp 92) (Operand.const (Value.bool true)) (Operand.tmp 102), type := 4, pos := "law.go:99", after := #[{ on := 6, ground := Ground.data }, { on := 16, ground := Ground.data }], guard := none }) (v := .bool false) rfl (by kernel_rfl) (by kernel_rfl) (by kernel_rfl) (fun _ _ _ h => h) (Or.inl ⟨by rfl, fun w hSw => by go_simp⟩) (by assumption) ?_
        try simp only [Act.put, List.setIfInBounds_toArray, List.set_cons_zero, List.set_cons_succ]
        refine wpAnyH_take (i := 18) (oi := { dst := some 104, op := Op.move (Operand.tmp 103), type := 4, pos := "law.go:99", after := #[{ on := 17, ground := Ground.data }, { on := 6, ground := Ground.chain }], guard := none }) (v := .bool false) rfl (by kernel_rfl) (by kernel_rfl) (by kernel_rfl) (fun _ _ _ h => h) (Or.inl ⟨by rfl, fun w hSw => by go_simp⟩) (by assumption) ?_
        try simp only [Act.put, List.setIfInBounds_toArray, List.set_cons_zero, List.set_cons_succ]
        refine wpAnyH_take (i := 19) (oi := { dst := some 105, op := Op.move (Operand.tmp 8), type := 3, pos := "law.go:99", after := #[{ on := 18, ground := Ground.guard }], guard := some (18, false) }) (v := .int .i64 (k : Int)) rfl (by kernel_rfl) (by kernel_rfl) (by kernel_rfl) (fun _ _ _ h => h) (Or.inl ⟨by rfl, fun w hSw => by go_simp⟩) (by assumption) ?_
        try simp only [Act.put, List.setIfInBounds_toArray, List.set_cons_zero, List.set_cons_succ]
        refine wpAnyH_take (i := 20) (oi := { dst := some 106, op := Op.binOp BinOp.gtr 3 (Operand.tmp 105) (Operand.const (Value.int IntKind.i64 0)) 3, type := 4, pos := "law.go:99", after := #[{ on := 19, ground := Ground.data }, { on := 18, ground := Ground.guard }], guard := some (18, false) }) (v := .bool true) rfl (by kernel_rfl) (by kernel_rfl) (by kernel_rfl) (fun _ _ _ h => h) (Or.inl ⟨by rfl, fun w hSw => by go_simp⟩) (by assumption) ?_
        try simp only [Act.put, List.setIfInBounds_toArray, List.set_cons_zero, List.set_cons_succ]
        refine wpAnyH_take (i := 21) (oi := { dst := some 107, op := Op.move (Operand.tmp 106), type := 4, pos := "law.go:99", after := #[{ on := 20, ground := Ground.data }, { on := 18, ground := Ground.chain }, { on := 18, ground := Ground.guard }], guard := some (18, false) }) (v := .bool true) rfl (by kernel_rfl) (by kernel_rfl) (by kernel_rfl) (fun _ _ _ h => h) (Or.inl ⟨by rfl, fun w hSw => by go_simp⟩) (by assumption) ?_
        try simp only [Act.put, List.setIfInBounds_toArray, List.set_cons_zero, List.set_cons_succ]
        refine wpAnyH_take (i := 22) (oi := { dst := some 108, op := Op.move (Operand.tmp 5), type := 52, pos := "law.go:99", after := #[{ on := 21, ground := Ground.guard }], guard := some (21, true) }) (v := .slice (some ⟨b5, 0, none⟩) nN c5) rfl (by kernel_rfl) (by kernel_rfl) (by kernel_rfl) (fun _ _ _ h => h) (Or.inl ⟨by rfl, fun w hSw => by go_simp⟩) (by assumption) ?_
        try simp only [Act.put, List.setIfInBounds_toArray, List.set_cons_zero, List.set_cons_succ]
        refine wpAnyH_take (i := 23) (oi := { dst := some 109, op := Op.move (Operand.tmp 8), type := 3, pos := "law.go:99", after := #[{ on := 21, ground := Ground.guard }], guard := some (21, true) }) (v := .int .i64 (k : Int)) rfl (by kernel_rfl) (by kernel_rfl) (by kernel_rfl) (fun _ _ _ h => h) (Or.inl ⟨by rfl, fun w hSw => by go_simp⟩) (by assumption) ?_
        try simp only [Act.put, List.setIfInBounds_toArray, List.set_cons_zero, List.set_cons_succ]
        refine wpAnyH_take (i := 24) (oi := { dst := some 110, op := Op.binOp BinOp.sub 3 (Operand.tmp 109) (Operand.const (Value.int IntKind.i64 1)) 3, type := 3, pos := "law.go:99", after := #[{ on := 23, ground := Ground.data }, { on := 21, ground := Ground.guard }], guard := some (21, true) }) (v := .int .i64 (km : Int)) rfl (by kernel_rfl) (by kernel_rfl) (by kernel_rfl) (fun _ _ _ h => h) (Or.inl ⟨by rfl, fun w hSw => by have hc := HKM.out.2.2.2; go_simp⟩) (by assumption) ?_
        try simp only [Act.put, List.setIfInBounds_toArray, List.set_cons_zero, List.set_cons_succ]
        refine wpAnyH_take (i := 25) (oi := { dst := some 111, op := Op.indexAddr 52 (Operand.tmp 108) (Operand.tmp 110), type := 0, pos := "law.go:99", after := #[{ on := 22, ground := Ground.data }, { on := 24, ground := Ground.data }, { on := 21, ground := Ground.guard }], guard := some (21, true) }) (v := .pointer (some ⟨b5, km, none⟩)) rfl (by kernel_rfl) (by kernel_rfl) (by kernel_rfl) (fun _ _ _ h => h) (Or.inl ⟨by rfl, fun w hSw => by go_simp⟩) (by assumption) ?_
        try simp only [Act.put, List.setIfInBounds_toArray, List.set_cons_zero, List.set_cons_succ]
        refine wpAnyH_take (i := 26) (oi := { dst := some 112, op := Op.load 9 (Operand.tmp 111), type := 9, pos := "law.go:99", after := #[{ on := 25, ground := Ground.data }, { on := 21, ground := Ground.guard }], guard := some (21, true) }) (v := .string nk) rfl (by kernel_rfl) (by kernel_rfl) (by kernel_rfl) (fun _ _ _ h => h) (Or.inl ⟨by rfl, fun w hSw => by have hc := (hSw.cell (p := ⟨b5, km, none⟩) HKM.out.1).trans HKM.out.2.1; go_simp⟩) (by assumption) ?_
        try simp only [Act.put, List.setIfInBounds_toArray, List.set_cons_zero, List.set_cons_succ]
        refine wpAnyH_take (i := 27) (oi := { dst := some 113, op := Op.move (Operand.tmp 5), type := 52, pos := "law.go:99", after := #[{ on := 21, ground := Ground.guard }], guard := some (21, true) }) (v := .slice (some ⟨b5, 0, none⟩) nN c5) rfl (by kernel_rfl) (by kernel_rfl) (by kernel_rfl) (fun _ _ _ h => h) (Or.inl ⟨by rfl, fun w hSw => by go_simp⟩) (by assumption) ?_
        try simp only [Act.put, List.setIfInBounds_toArray, List.set_cons_zero, List.set_cons_succ]
        refine wpAnyH_take (i := 28) (oi := { dst := some 114, op := Op.move (Operand.tmp 8), type := 3, pos := "law.go:99", after := #[{ on := 21, ground := Ground.guard }], guard := some (21, true) }) (v := .int .i64 (k : Int)) rfl (by kernel_rfl) (by kernel_rfl) (by kernel_rfl) (fun _ _ _ h => h) (Or.inl ⟨by rfl, fun w hSw => by go_simp⟩) (by assumption) ?_
        try simp only [Act.put, List.setIfInBounds_toArray, List.set_cons_zero, List.set_cons_succ]
        refine wpAnyH_take (i := 29) (oi := { dst := some 115, op := Op.indexAddr 52 (Operand.tmp 113) (Operand.tmp 114), type := 0, pos := "law.go:99", after := #[{ on := 27, ground := Ground.data }, { on := 28, ground := Ground.data }, { on := 21, ground := Ground.guard }], guard := some (21, true) }) (v := .pointer (some ⟨b5, k, none⟩)) rfl (by kernel_rfl) (by kernel_rfl) (by kernel_rfl) (fun _ _ _ h => h) (Or.inl ⟨by rfl, fun w hSw => by go_simp⟩) (by assumption) ?_
        try simp only [Act.put, List.setIfInBounds_toArray, List.set_cons_zero, List.set_cons_succ]
        refine wpAnyH_take (i := 30) (oi := { dst := some 116, op := Op.load 9 (Operand.tmp 115), type := 9, pos := "law.go:99", after := #[{ on := 29, ground := Ground.data }, { on := 21, ground := Ground.guard }], guard := some (21, true) }) (v := .string nm) rfl (by kernel_rfl) (by kernel_rfl) (by kernel_rfl) (fun _ _ _ h => h) (Or.inl ⟨by rfl, fun w hSw => by have hc := (hSw.cell (p := ⟨b5, k, none⟩) HC4.out.1).trans HC4.out.2; go_simp⟩) (by assumption) ?_
        try simp only [Act.put, List.setIfInBounds_toArray, List.set_cons_zero, List.set_cons_succ]
        refine wpAnyH_take (i := 31) (oi := { dst := some 117, op := Op.binOp BinOp.geq 9 (Operand.tmp 112) (Operand.tmp 116) 9, type := 4, pos := "law.go:99", after := #[{ on := 26, ground := Ground.data }, { on := 30, ground := Ground.data }, { on := 21, ground := Ground.guard }], guard := some (21, true) }) (v := .bool false) rfl (by kernel_rfl) (by kernel_rfl) (by kernel_rfl) (fun _ _ _ h => h) (Or.inl ⟨by rfl, fun w hSw => by have hc := HKM.out.2.2.1; go_simp⟩) (by assumption) ?_
        try simp only [Act.put, List.setIfInBounds_toArray, List.set_cons_zero, List.set_cons_succ]
        refine wpAnyH_take (i := 32) (oi := { dst := some 118, op := Op.pick (Operand.tmp 107) (Operand.tmp 117) (Operand.const (Value.bool false)), type := 4, pos := "law.go:99", after := #[{ on := 21, ground := Ground.data }, { on := 31, ground := Ground.data }, { on := 18, ground := Ground.guard }], guard := some (18, false) }) (v := .bool false) rfl (by kernel_rfl) (by kernel_rfl) (by kernel_rfl) (fun _ _ _ h => h) (Or.inl ⟨by rfl, fun w hSw => by go_simp⟩) (by assumption) ?_
        try simp only [Act.put, List.setIfInBounds_toArray, List.set_cons_zero, List.set_cons_succ]
        refine wpAnyH_take (i := 33) (oi := { dst := some 119, op := Op.pick (Operand.tmp 104) (Operand.const (Value.bool true)) (Operand.tmp 118), type := 4, pos := "law.go:99", after := #[{ on := 18, ground := Ground.data }, { on := 32, ground := Ground.data }], guard := none }) (v := .bool false) rfl (by kernel_rfl) (by kernel_rfl) (by kernel_rfl) (fun _ _ _ h => h) (Or.inl ⟨by rfl, fun w hSw => by go_simp⟩) (by assumption) ?_
        try simp only [Act.put, List.setIfInBounds_toArray, List.set_cons_zero, List.set_cons_succ]
        refine wpAnyH_done (by kernel_rfl) ?_ _
        try unfold NoPanic
        go_wp2
        go_roundw
        case rel => exact ⟨k + 1, by omega, by go_num, HR.out.trans ((HB4'.out.trans (hHeld.mono HB4'.out.size)).mono HR.out.size)⟩
        case measure => simp [intOf]; omega
      · have h0' : ¬ (0 : Int) < k := by omega
        refine wp_region_noPanic ?_
        refine wp_region_held_drew (S := fun y : World => Below w4.heap.size w4 y) (by kernel_rfl) (hHeld.drew) (fun hHeld => ?_)
        generalize wd.drew = we at *
        refine wpAnyH_take (i := 0) (oi := { dst := some 86, op := Op.move (Operand.tmp 11), type := 3, pos := "law.go:99", after := #[], guard := none }) (v := .int .i64 (fi : Int)) rfl (by kernel_rfl) (by kernel_rfl) (by kernel_rfl) (fun _ _ _ h => h) (Or.inl ⟨by rfl, fun w hSw => by go_simp⟩) (by assumption) ?_
        try simp only [Act.put, List.setIfInBounds_toArray, List.set_cons_zero, List.set_cons_succ]
        refine wpAnyH_take (i := 1) (oi := { dst := some 87, op := Op.binOp BinOp.lss 3 (Operand.tmp 86) (Operand.const (Value.int IntKind.i64 0)) 3, type := 4, pos := "law.go:99", after := #[{ on := 0, ground := Ground.data }], guard := none }) (v := .bool false) rfl (by kernel_rfl) (by kernel_rfl) (by kernel_rfl) (fun _ _ _ h => h) (Or.inl ⟨by rfl, fun w hSw => by go_simp⟩) (by assumption) ?_
        try simp only [Act.put, List.setIfInBounds_toArray, List.set_cons_zero, List.set_cons_succ]
        refine wpAnyH_take (i := 2) (oi := { dst := some 88, op := Op.move (Operand.tmp 87), type := 4, pos := "law.go:99", after := #[{ on := 1, ground := Ground.data }], guard := none }) (v := .bool false) rfl (by kernel_rfl) (by kernel_rfl) (by kernel_rfl) (fun _ _ _ h => h) (Or.inl ⟨by rfl, fun w hSw => by go_simp⟩) (by assumption) ?_
        try simp only [Act.put, List.setIfInBounds_toArray, List.set_cons_zero, List.set_cons_succ]
        refine wpAnyH_take (i := 3) (oi := { dst := some 89, op := Op.move (Operand.tmp 10), type := 27, pos := "law.go:99", after := #[{ on := 2, ground := Ground.guard }], guard := some (2, false) }) (v := .int .i64 0) rfl (by kernel_rfl) (by kernel_rfl) (by kernel_rfl) (fun _ _ _ h => h) (Or.inl ⟨by rfl, fun w hSw => by go_simp⟩) (by assumption) ?_
        try simp only [Act.put, List.setIfInBounds_toArray, List.set_cons_zero, List.set_cons_succ]
        refine wpAnyH_take (i := 4) (oi := { dst := some 90, op := Op.binOp BinOp.neq 27 (Operand.tmp 89) (Operand.const (Value.int IntKind.i64 0)) 27, type := 4, pos := "law.go:99", after := #[{ on := 3, ground := Ground.data }, { on := 2, ground := Ground.guard }], guard := some (2, false) }) (v := .bool false) rfl (by kernel_rfl) (by kernel_rfl) (by kernel_rfl) (fun _ _ _ h => h) (Or.inl ⟨by rfl, fun w hSw => by go_simp⟩) (by assumption) ?_
        try simp only [Act.put, List.setIfInBounds_toArray, List.set_cons_zero, List.set_cons_succ]
        refine wpAnyH_take (i := 5) (oi := { dst := some 91, op := Op.pick (Operand.tmp 88) (Operand.const (Value.bool true)) (Operand.tmp 90), type := 4, pos := "law.go:99", after := #[{ on := 2, ground := Ground.data }, { on := 4, ground := Ground.data }], guard := none }) (v := .bool false) rfl (by kernel_rfl) (by kernel_rfl) (by kernel_rfl) (fun _ _ _ h => h) (Or.inl ⟨by rfl, fun w hSw => by go_simp⟩) (by assumption) ?_
        try simp only [Act.put, List.setIfInBounds_toArray, List.set_cons_zero, List.set_cons_succ]
        refine wpAnyH_take (i := 6) (oi := { dst := some 92, op := Op.move (Operand.tmp 91), type := 4, pos := "law.go:99", after := #[{ on := 5, ground := Ground.data }, { on := 2, ground := Ground.chain }], guard := none }) (v := .bool false) rfl (by kernel_rfl) (by kernel_rfl) (by kernel_rfl) (fun _ _ _ h => h) (Or.inl ⟨by rfl, fun w hSw => by go_simp⟩) (by assumption) ?_
        try simp only [Act.put, List.setIfInBounds_toArray, List.set_cons_zero, List.set_cons_succ]
        refine wpAnyH_take (i := 7) (oi := { dst := some 93, op := Op.move (Operand.tmp 9), type := 22, pos := "law.go:99", after := #[{ on := 6, ground := Ground.guard }], guard := some (6, false) }) (v := .slice A9 lp c9) rfl (by kernel_rfl) (by kernel_rfl) (by kernel_rfl) (fun _ _ _ h => h) (Or.inl ⟨by rfl, fun w hSw => by go_simp⟩) (by assumption) ?_
        try simp only [Act.put, List.setIfInBounds_toArray, List.set_cons_zero, List.set_cons_succ]
        refine wpAnyH_take (i := 8) (oi := { dst := some 94, op := Op.convert 22 9 (Operand.tmp 93), type := 9, pos := "law.go:99", after := #[{ on := 7, ground := Ground.data }, { on := 6, ground := Ground.guard }], guard := some (6, false) }) (v := .string pv) rfl (by kernel_rfl) (by kernel_rfl) (by kernel_rfl) (fun _ _ _ h => h) (Or.inl ⟨by rfl, fun w hSw => by have hc := HV9.out _ hSw; go_simp⟩) (by assumption) ?_
        try simp only [Act.put, List.setIfInBounds_toArray, List.set_cons_zero, List.set_cons_succ]
        refine wpAnyH_take (i := 9) (oi := { dst := some 95, op := Op.fieldAddr 35 (Operand.tmp 3) 0, type := 0, pos := "law.go:99", after := #[{ on := 6, ground := Ground.guard }], guard := some (6, false) }) (v := .pointer (some ⟨w.heap.size, 0, none⟩)) rfl (by kernel_rfl) (by kernel_rfl) (by kernel_rfl) (fun _ _ _ h => h) (Or.inl ⟨by rfl, fun w hSw => by go_simp⟩) (by assumption) ?_
        try simp only [Act.put, List.setIfInBounds_toArray, List.set_cons_zero, List.set_cons_succ]
        refine wpAnyH_take (i := 10) (oi := { dst := some 96, op := Op.load 31 (Operand.tmp 95), type := 31, pos := "law.go:99", after := #[{ on := 9, ground := Ground.data }, { on := 6, ground := Ground.guard }], guard := some (6, false) }) (v := .slice (some ⟨g1, 0, none⟩) nL c1) rfl (by kernel_rfl) (by kernel_rfl) (by kernel_rfl) (fun _ _ _ h => h) (Or.inl ⟨by rfl, fun w hSw => by have hSw := HB4.out.trans (hSw.mono HB4.out.size); obtain ⟨p0, p1, p2, p3, p4, p5, p6, -⟩ := row7 ((hSw.block _ HN.out.2.1).trans HN.out.1); go_simp⟩) (by assumption) ?_
        try simp only [Act.put, List.setIfInBounds_toArray, List.set_cons_zero, List.set_cons_succ]
        refine wpAnyH_take (i := 11) (oi := { dst := some 97, op := Op.move (Operand.tmp 11), type := 3, pos := "law.go:99", after := #[{ on := 6, ground := Ground.guard }], guard := some (6, false) }) (v := .int .i64 (fi : Int)) rfl (by kernel_rfl) (by kernel_rfl) (by kernel_rfl) (fun _ _ _ h => h) (Or.inl ⟨by rfl, fun w hSw => by go_simp⟩) (by assumption) ?_
        try simp only [Act.put, List.setIfInBounds_toArray, List.set_cons_zero, List.set_cons_succ]
        refine wpAnyH_take (i := 12) (oi := { dst := some 98, op := Op.indexAddr 31 (Operand.tmp 96) (Operand.tmp 97), type := 0, pos := "law.go:99", after := #[{ on := 10, ground := Ground.data }, { on := 11, ground := Ground.data }, { on := 6, ground := Ground.guard }], guard := some (6, false) }) (v := .pointer (some ⟨g1, fi * 2, none⟩)) rfl (by kernel_rfl) (by kernel_rfl) (by kernel_rfl) (fun _ _ _ h => h) (Or.inl ⟨by rfl, fun w hSw => by go_simp⟩) (by assumption) ?_
        try simp only [Act.put, List.setIfInBounds_toArray, List.set_cons_zero, List.set_cons_succ]
        refine wpAnyH_take (i := 13) (oi := { dst := some 99, op := Op.fieldAddr 83 (Operand.tmp 98) 0, type := 0, pos := "law.go:99", after := #[{ on := 12, ground := Ground.data }, { on := 6, ground := Ground.guard }], guard := some (6, false) }) (v := .pointer (some ⟨g1, fi * 2, none⟩)) rfl (by kernel_rfl) (by kernel_rfl) (by kernel_rfl) (fun _ _ _ h => h) (Or.inl ⟨by rfl, fun w hSw => by go_simp⟩) (by assumption) ?_
        try simp only [Act.put, List.setIfInBounds_toArray, List.set_cons_zero, List.set_cons_succ]
        refine wpAnyH_take (i := 14) (oi := { dst := some 100, op := Op.load 22 (Operand.tmp 99), type := 22, pos := "law.go:99", after := #[{ on := 13, ground := Ground.data }, { on := 6, ground := Ground.guard }], guard := some (6, false) }) (v := .slice Ap lp cp) rfl (by kernel_rfl) (by kernel_rfl) (by kernel_rfl) (fun _ _ _ h => h) (Or.inl ⟨by rfl, fun w hSw => by have hc := HFB.out.1 _ hSw; go_simp⟩) (by assumption) ?_
        try simp only [Act.put, List.setIfInBounds_toArray, List.set_cons_zero, List.set_cons_succ]
        refine wpAnyH_take (i := 15) (oi := { dst := some 101, op := Op.convert 22 9 (Operand.tmp 100), type := 9, pos := "law.go:99", after := #[{ on := 14, ground := Ground.data }, { on := 6, ground := Ground.guard }], guard := some (6, false) }) (v := .string pv) rfl (by kernel_rfl) (by kernel_rfl) (by kernel_rfl) (fun _ _ _ h => h) (Or.inl ⟨by rfl, fun w hSw => by have hc := HFB.out.2 _ hSw; go_simp⟩) (by assumption) ?_
        try simp only [Act.put, List.setIfInBounds_toArray, List.set_cons_zero, List.set_cons_succ]
        refine wpAnyH_take (i := 16) (oi := { dst := some 102, op := Op.binOp BinOp.neq 9 (Operand.tmp 94) (Operand.tmp 101) 9, type := 4, pos := "law.go:99", after := #[{ on := 8, ground := Ground.data }, { on := 15, ground := Ground.data }, { on := 6, ground := Ground.guard }], guard := some (6, false) }) (v := .bool false) rfl (by kernel_rfl) (by kernel_rfl) (by kernel_rfl) (fun _ _ _ h => h) (Or.inl ⟨by rfl, fun w hSw => by go_simp⟩) (by assumption) ?_
        try simp only [Act.put, List.setIfInBounds_toArray, List.set_cons_zero, List.set_cons_succ]
        refine wpAnyH_take (i := 17) (oi := { dst := some 103, op := Op.pick (Operand.tmp 92) (Operand.const (Value.bool true)) (Operand.tmp 102), type := 4, pos := "law.go:99", after := #[{ on := 6, ground := Ground.data }, { on := 16, ground := Ground.data }], guard := none }) (v := .bool false) rfl (by kernel_rfl) (by kernel_rfl) (by kernel_rfl) (fun _ _ _ h => h) (Or.inl ⟨by rfl, fun w hSw => by go_simp⟩) (by assumption) ?_
        try simp only [Act.put, List.setIfInBounds_toArray, List.set_cons_zero, List.set_cons_succ]
        refine wpAnyH_take (i := 18) (oi := { dst := some 104, op := Op.move (Operand.tmp 103), type := 4, pos := "law.go:99", after := #[{ on := 17, ground := Ground.data }, { on := 6, ground := Ground.chain }], guard := none }) (v := .bool false) rfl (by kernel_rfl) (by kernel_rfl) (by kernel_rfl) (fun _ _ _ h => h) (Or.inl ⟨by rfl, fun w hSw => by go_simp⟩) (by assumption) ?_
        try simp only [Act.put, List.setIfInBounds_toArray, List.set_cons_zero, List.set_cons_succ]
        refine wpAnyH_take (i := 19) (oi := { dst := some 105, op := Op.move (Operand.tmp 8), type := 3, pos := "law.go:99", after := #[{ on := 18, ground := Ground.guard }], guard := some (18, false) }) (v := .int .i64 (k : Int)) rfl (by kernel_rfl) (by kernel_rfl) (by kernel_rfl) (fun _ _ _ h => h) (Or.inl ⟨by rfl, fun w hSw => by go_simp⟩) (by assumption) ?_
        try simp only [Act.put, List.setIfInBounds_toArray, List.set_cons_zero, List.set_cons_succ]
        refine wpAnyH_take (i := 20) (oi := { dst := some 106, op := Op.binOp BinOp.gtr 3 (Operand.tmp 105) (Operand.const (Value.int IntKind.i64 0)) 3, type := 4, pos := "law.go:99", after := #[{ on := 19, ground := Ground.data }, { on := 18, ground := Ground.guard }], guard := some (18, false) }) (v := .bool false) rfl (by kernel_rfl) (by kernel_rfl) (by kernel_rfl) (fun _ _ _ h => h) (Or.inl ⟨by rfl, fun w hSw => by go_simp⟩) (by assumption) ?_
        try simp only [Act.put, List.setIfInBounds_toArray, List.set_cons_zero, List.set_cons_succ]
        refine wpAnyH_take (i := 21) (oi := { dst := some 107, op := Op.move (Operand.tmp 106), type := 4, pos := "law.go:99", after := #[{ on := 20, ground := Ground.data }, { on := 18, ground := Ground.chain }, { on := 18, ground := Ground.guard }], guard := some (18, false) }) (v := .bool false) rfl (by kernel_rfl) (by kernel_rfl) (by kernel_rfl) (fun _ _ _ h => h) (Or.inl ⟨by rfl, fun w hSw => by go_simp⟩) (by assumption) ?_
        try simp only [Act.put, List.setIfInBounds_toArray, List.set_cons_zero, List.set_cons_succ]
        refine wpAnyH_take (i := 22) (oi := { dst := some 108, op := Op.move (Operand.tmp 5), type := 52, pos := "law.go:99", after := #[{ on := 21, ground := Ground.guard }], guard := some (21, true) }) (v := undef) rfl (by kernel_rfl) (by kernel_rfl) (by kernel_rfl) (fun _ _ _ h => h) (Or.inr ⟨by rfl, rfl⟩) (by assumption) ?_
        try simp only [Act.put, List.setIfInBounds_toArray, List.set_cons_zero, List.set_cons_succ]
        refine wpAnyH_take (i := 23) (oi := { dst := some 109, op := Op.move (Operand.tmp 8), type := 3, pos := "law.go:99", after := #[{ on := 21, ground := Ground.guard }], guard := some (21, true) }) (v := undef) rfl (by kernel_rfl) (by kernel_rfl) (by kernel_rfl) (fun _ _ _ h => h) (Or.inr ⟨by rfl, rfl⟩) (by assumption) ?_
        try simp only [Act.put, List.setIfInBounds_toArray, List.set_cons_zero, List.set_cons_succ]
        refine wpAnyH_take (i := 24) (oi := { dst := some 110, op := Op.binOp BinOp.sub 3 (Operand.tmp 109) (Operand.const (Value.int IntKind.i64 1)) 3, type := 3, pos := "law.go:99", after := #[{ on := 23, ground := Ground.data }, { on := 21, ground := Ground.guard }], guard := some (21, true) }) (v := undef) rfl (by kernel_rfl) (by kernel_rfl) (by kernel_rfl) (fun _ _ _ h => h) (Or.inr ⟨by rfl, rfl⟩) (by assumption) ?_
        try simp only [Act.put, List.setIfInBounds_toArray, List.set_cons_zero, List.set_cons_succ]
        refine wpAnyH_take (i := 25) (oi := { dst := some 111, op := Op.indexAddr 52 (Operand.tmp 108) (Operand.tmp 110), type := 0, pos := "law.go:99", after := #[{ on := 22, ground := Ground.data }, { on := 24, ground := Ground.data }, { on := 21, ground := Ground.guard }], guard := some (21, true) }) (v := undef) rfl (by kernel_rfl) (by kernel_rfl) (by kernel_rfl) (fun _ _ _ h => h) (Or.inr ⟨by rfl, rfl⟩) (by assumption) ?_
        try simp only [Act.put, List.setIfInBounds_toArray, List.set_cons_zero, List.set_cons_succ]
        refine wpAnyH_take (i := 26) (oi := { dst := some 112, op := Op.load 9 (Operand.tmp 111), type := 9, pos := "law.go:99", after := #[{ on := 25, ground := Ground.data }, { on := 21, ground := Ground.guard }], guard := some (21, true) }) (v := undef) rfl (by kernel_rfl) (by kernel_rfl) (by kernel_rfl) (fun _ _ _ h => h) (Or.inr ⟨by rfl, rfl⟩) (by assumption) ?_
        try simp only [Act.put, List.setIfInBounds_toArray, List.set_cons_zero, List.set_cons_succ]
        refine wpAnyH_take (i := 27) (oi := { dst := some 113, op := Op.move (Operand.tmp 5), type := 52, pos := "law.go:99", after := #[{ on := 21, ground := Ground.guard }], guard := some (21, true) }) (v := undef) rfl (by kernel_rfl) (by kernel_rfl) (by kernel_rfl) (fun _ _ _ h => h) (Or.inr ⟨by rfl, rfl⟩) (by assumption) ?_
        try simp only [Act.put, List.setIfInBounds_toArray, List.set_cons_zero, List.set_cons_succ]
        refine wpAnyH_take (i := 28) (oi := { dst := some 114, op := Op.move (Operand.tmp 8), type := 3, pos := "law.go:99", after := #[{ on := 21, ground := Ground.guard }], guard := some (21, true) }) (v := undef) rfl (by kernel_rfl) (by kernel_rfl) (by kernel_rfl) (fun _ _ _ h => h) (Or.inr ⟨by rfl, rfl⟩) (by assumption) ?_
        try simp only [Act.put, List.setIfInBounds_toArray, List.set_cons_zero, List.set_cons_succ]
        refine wpAnyH_take (i := 29) (oi := { dst := some 115, op := Op.indexAddr 52 (Operand.tmp 113) (Operand.tmp 114), type := 0, pos := "law.go:99", after := #[{ on := 27, ground := Ground.data }, { on := 28, ground := Ground.data }, { on := 21, ground := Ground.guard }], guard := some (21, true) }) (v := undef) rfl (by kernel_rfl) (by kernel_rfl) (by kernel_rfl) (fun _ _ _ h => h) (Or.inr ⟨by rfl, rfl⟩) (by assumption) ?_
        try simp only [Act.put, List.setIfInBounds_toArray, List.set_cons_zero, List.set_cons_succ]
        refine wpAnyH_take (i := 30) (oi := { dst := some 116, op := Op.load 9 (Operand.tmp 115), type := 9, pos := "law.go:99", after := #[{ on := 29, ground := Ground.data }, { on := 21, ground := Ground.guard }], guard := some (21, true) }) (v := undef) rfl (by kernel_rfl) (by kernel_rfl) (by kernel_rfl) (fun _ _ _ h => h) (Or.inr ⟨by rfl, rfl⟩) (by assumption) ?_
        try simp only [Act.put, List.setIfInBounds_toArray, List.set_cons_zero, List.set_cons_succ]
        refine wpAnyH_take (i := 31) (oi := { dst := some 117, op := Op.binOp BinOp.geq 9 (Operand.tmp 112) (Operand.tmp 116) 9, type := 4, pos := "law.go:99", after := #[{ on := 26, ground := Ground.data }, { on := 30, ground := Ground.data }, { on := 21, ground := Ground.guard }], guard := some (21, true) }) (v := undef) rfl (by kernel_rfl) (by kernel_rfl) (by kernel_rfl) (fun _ _ _ h => h) (Or.inr ⟨by rfl, rfl⟩) (by assumption) ?_
        try simp only [Act.put, List.setIfInBounds_toArray, List.set_cons_zero, List.set_cons_succ]
        refine wpAnyH_take (i := 32) (oi := { dst := some 118, op := Op.pick (Operand.tmp 107) (Operand.tmp 117) (Operand.const (Value.bool false)), type := 4, pos := "law.go:99", after := #[{ on := 21, ground := Ground.data }, { on := 31, ground := Ground.data }, { on := 18, ground := Ground.guard }], guard := some (18, false) }) (v := .bool false) rfl (by kernel_rfl) (by kernel_rfl) (by kernel_rfl) (fun _ _ _ h => h) (Or.inl ⟨by rfl, fun w hSw => by go_simp⟩) (by assumption) ?_
        try simp only [Act.put, List.setIfInBounds_toArray, List.set_cons_zero, List.set_cons_succ]
        refine wpAnyH_take (i := 33) (oi := { dst := some 119, op := Op.pick (Operand.tmp 104) (Operand.const (Value.bool true)) (Operand.tmp 118), type := 4, pos := "law.go:99", after := #[{ on := 18, ground := Ground.data }, { on := 32, ground := Ground.data }], guard := none }) (v := .bool false) rfl (by kernel_rfl) (by kernel_rfl) (by kernel_rfl) (fun _ _ _ h => h) (Or.inl ⟨by rfl, fun w hSw => by go_simp⟩) (by assumption) ?_
        try simp only [Act.put, List.setIfInBounds_toArray, List.set_cons_zero, List.set_cons_succ]
        refine wpAnyH_done (by kernel_rfl) ?_ _
        try unfold NoPanic
        go_wp2
        go_roundw
        case rel => exact ⟨k + 1, by omega, by go_num, HR.out.trans ((HB4'.out.trans (hHeld.mono HB4'.out.size)).mono HR.out.size)⟩
        case measure => simp [intOf]; omega
    · have HBR := Lib.hid (HB3.out.trans (HR.out.mono HB3.out.size))
      have c18 : Calls Try.prog 18 #[.pointer (some ⟨q, 0, none⟩), .string ⟨#[122]⟩] wr _ := read_rep wr T q m zN (HN.out.2.2.1.below HBR.out) (by decide)
      rw [HL.out.2.2.2.2] at c18
      have HC18 := Lib.hid c18
      clear c18
      obtain rfl : k = nN := by omega
      go_wp2_with (go_at_call 18; (with_reducible refine HC18.out.mono ?_); rintro e w4 ⟨v9, rfl, -, B4⟩; have HB4' := Lib.hid B4; clear B4)
      go_ret
      have hb := HBR.out.trans (HB4'.out.mono HBR.out.size)
      exact ⟨rfl, HB.out.trans (hb.mono HB.out.size)⟩
end Go.Proofs.Ytkalgonkaoiapaa.Shf
