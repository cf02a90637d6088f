/- Apply: one more change. -/
import Derived.Test.YtcgncecjbkpmkaaKb
import Derived.Test.YtcgncecjbkpmkaaKc
import Derived.Test.YtcgncecjbkpmkaaKe
import Derived.Test.YtcgncecjbkpmkaaCd
namespace Go.Proofs.Ytcgncecjbkpmkaa.Tab
open Pre Ser Chg
open Go.ChangeShapes Go.WideShapes Go.ChangeAt Go.RowKit
set_option maxRecDepth 8000

theorem there_yes {x : Nat} {rs : List R} (h : thereB x rs = true) : ∃ hp : pos x rs < rs.length, rs[pos x rs].key = x := by
  unfold thereB at h
  split at h
  · rename_i r hr
    obtain ⟨hp, he⟩ := List.getElem?_eq_some_iff.1 hr
    exact ⟨hp, by rw [he]; simpa using h⟩
  · cases h
theorem there_no {x : Nat} {rs : List R} (h : thereB x rs = false) : ∀ hp : pos x rs < rs.length, rs[pos x rs].key ≠ x := fun hp e => by
  unfold thereB at h
  rw [List.getElem?_eq_getElem hp] at h
  simp [e] at h
theorem look_there {x : Nat} {rs : List R} {r : R} (hr : Rising rs) (h : look x rs = some r) : thereB x rs = true ∧ ∃ hp : pos x rs < rs.length, rs[pos x rs] = r := by
  obtain ⟨j, hj, rfl⟩ := List.getElem_of_mem (List.mem_of_find?_eq_some h)
  have hx : rs[j].key = x := by have := List.find?_some h; simpa using this
  have h1 : pos x rs ≤ j := by
    rcases Nat.lt_or_ge j (pos x rs) with h1 | h1
    · have := pos_lt x rs j hj h1; omega
    · exact h1
  have hp : pos x rs < rs.length := by omega
  have h2 : pos x rs = j := by
    rcases Nat.lt_or_eq_of_le h1 with h2 | h2
    · have h3 := pos_at x rs hp
      have h4 := hr.get h2 hj
      omega
    · exact h2
  subst h2
  exact ⟨by unfold thereB; rw [List.getElem?_eq_getElem hp]; simpa using hx, hp, rfl⟩
/-- A table, the change's box, and what is as it was. -/
structure Ap (w W : World) (B q : Nat) (t : T) (v : Value) (x : Array Value) : Prop where
  tab : TabAt W B q t v
  box : W.heap[w.heap.size]? = some (.cells x 38 (0, 0))
  bl : Below w.heap.size w W
theorem Ap.step {w W W' : World} {B q : Nat} {t : T} {v : Value} {x : Array Value} (h : Ap w W B q t v x) (b : Below W.heap.size W W') : Ap w W' B q t v x :=
  ⟨h.tab.kept b, (b.block _ (Array.getElem?_eq_some_iff.1 h.box).1).trans h.box, h.bl.trans (b.mono h.bl.size)⟩
def PutSaid (w : World) (B q : Nat) (o0 : Option Nat) (t : T) (e : Ending) (w' : World) : Prop := ∃ v', e = .returned (.int .i64 0) ∧ TabAt w' B q t v' ∧ Below B w w' ∧ ∀ k, k < w.heap.size → k ≠ q → o0 ≠ some k → w'.heap[k]? = w.heap[k]?
theorem grown_setCell (w : World) (q i : Nat) (v : Value) : w.grownBy (w.setCell ⟨q, i, none⟩ v) (some q) :=
  ⟨rfl, rfl, rfl, ((Below.refl 0 w).setCell (p := ⟨q, i, none⟩) (Nat.zero_le _) v).size, fun k _ hne => Below.heap_setCell w ⟨q, i, none⟩ v k (fun e => hne (by rw [e]))⟩
theorem below_of_grown {w w' : World} {B : Nat} {row : Option Nat} (h : w.grownBy w' row) (hB : B ≤ w.heap.size) (hr : ∀ k, row = some k → B ≤ k) : Below B w w' :=
  ⟨h.os, h.tape, h.output, h.size, fun k hk => h.block k (by omega) (fun e => by have := hr k e.symm; omega)⟩
theorem key_mk (no tm : Nat) (g : Bool) (a n via mt sq : Nat) : C.key ⟨no, tm, g, a, n, via, mt, sq⟩ = key a n := rfl
theorem splice_set {α : Type} (L : List α) (o : Nat) (x : α) (xs : List α) (h : o < L.length) : splice (L.set o x) (o + 1) xs = splice L o (x :: xs) := by
  unfold splice
  have e1 : (L.set o x).take (o + 1) = L.take o ++ [x] := by
    rw [List.take_add_one, List.take_set_of_le (Nat.le_refl _)]
    simp [h]
  rw [e1, List.drop_set_of_lt (by omega)]
  simp [Nat.add_assoc, Nat.add_comm 1]
theorem splice_none {α : Type} (L : List α) (o : Nat) : splice L o [] = L := by simp [splice]
theorem splice_in {α : Type} (X Y0 Y D L : List α) (hY : Y0.length = Y.length) (hL : L.take (X.length + Y.length + D.length) = X ++ Y0 ++ D) : (splice L X.length Y).take (X.length + Y.length + D.length) = X ++ Y ++ D := by
  obtain ⟨L', rfl⟩ : ∃ L', L = X ++ (Y0 ++ (D ++ L')) := ⟨L.drop (X.length + Y.length + D.length), by rw [← List.append_assoc, ← List.append_assoc, ← hL, List.take_append_drop]⟩
  unfold splice
  rw [List.take_left' rfl, ← List.append_assoc X Y0, List.drop_left' (by rw [List.length_append, hY]), ← List.append_assoc X, ← List.append_assoc, List.take_left' (by simp only [List.length_append])]
theorem splice10 {α : Type} (L : List α) (o : Nat) (h : o + 10 ≤ L.length) (y0 y1 y2 y3 y4 y5 y6 y7 y8 y9 : α) :
    splice L o [y0, y1, y2, y3, y4, y5, y6, y7, y8, y9] = (((((((((L.set o y0).set (o + 1) y1).set (o + 2) y2).set (o + 3) y3).set (o + 4) y4).set (o + 5) y5).set (o + 6) y6).set (o + 7) y7).set (o + 8) y8).set (o + 9) y9 := by
  rw [← splice_set L o y0 _ (by omega), ← splice_set _ (o + 1) y1 _ (by simp only [List.length_set]; omega), ← splice_set _ (o + 2) y2 _ (by simp only [List.length_set]; omega), ← splice_set _ (o + 3) y3 _ (by simp only [List.length_set]; omega), ← splice_set _ (o + 4) y4 _ (by simp only [List.length_set]; omega), ← splice_set _ (o + 5) y5 _ (by simp only [List.length_set]; omega), ← splice_set _ (o + 6) y6 _ (by simp only [List.length_set]; omega), ← splice_set _ (o + 7) y7 _ (by simp only [List.length_set]; omega), ← splice_set _ (o + 8) y8 _ (by simp only [List.length_set]; omega), ← splice_set _ (o + 9) y9 _ (by simp only [List.length_set]; omega), splice_none]
theorem set_list {w : World} {b : Nat} {t : TypeId} {L : List Value} (h : w.heap[b]? = some (.cells L.toArray t (0, 0))) (i : Nat) (v : Value) : (w.setCell ⟨b, i, none⟩ v).heap[b]? = some (.cells (L.set i v).toArray t (0, 0)) := by
  rw [heap_setCell_same w b i _ t v h]
  congr 2
  simp
theorem put10 {w : World} {b o : Nat} {t : TypeId} {L : List Value} (h : w.heap[b]? = some (.cells L.toArray t (0, 0))) (hl : o + 10 ≤ L.length) (y0 y1 y2 y3 y4 y5 y6 y7 y8 y9 : Value) :
    ((((((((((w.setCell ⟨b, o, none⟩ y0).setCell ⟨b, o + 1, none⟩ y1).setCell ⟨b, o + 2, none⟩ y2).setCell ⟨b, o + 3, none⟩ y3).setCell ⟨b, o + 4, none⟩ y4).setCell ⟨b, o + 5, none⟩ y5).setCell ⟨b, o + 6, none⟩ y6).setCell ⟨b, o + 7, none⟩ y7).setCell ⟨b, o + 8, none⟩ y8).setCell ⟨b, o + 9, none⟩ y9).heap[b]? = some (.cells (splice L o [y0, y1, y2, y3, y4, y5, y6, y7, y8, y9]).toArray t (0, 0)) := by
  rw [splice10 L o hl]
  exact set_list (set_list (set_list (set_list (set_list (set_list (set_list (set_list (set_list (set_list h o y0) (o + 1) y1) (o + 2) y2) (o + 3) y3) (o + 4) y4) (o + 5) y5) (o + 6) y6) (o + 7) y7) (o + 8) y8) (o + 9) y9
theorem grown10 (w : World) (b o : Nat) (y0 y1 y2 y3 y4 y5 y6 y7 y8 y9 : Value) :
    w.grownBy ((((((((((w.setCell ⟨b, o, none⟩ y0).setCell ⟨b, o + 1, none⟩ y1).setCell ⟨b, o + 2, none⟩ y2).setCell ⟨b, o + 3, none⟩ y3).setCell ⟨b, o + 4, none⟩ y4).setCell ⟨b, o + 5, none⟩ y5).setCell ⟨b, o + 6, none⟩ y6).setCell ⟨b, o + 7, none⟩ y7).setCell ⟨b, o + 8, none⟩ y8).setCell ⟨b, o + 9, none⟩ y9) (some b) :=
  (((((((((grown_setCell w b o y0).trans (grown_setCell _ b (o + 1) y1)).trans (grown_setCell _ b (o + 2) y2)).trans (grown_setCell _ b (o + 3) y3)).trans (grown_setCell _ b (o + 4) y4)).trans (grown_setCell _ b (o + 5) y5)).trans (grown_setCell _ b (o + 6) y6)).trans (grown_setCell _ b (o + 7) y7)).trans (grown_setCell _ b (o + 8) y8)).trans (grown_setCell _ b (o + 9) y9)
theorem slice_inj {a b o p n m c d : Nat} (h : Value.slice (some ⟨a, o, none⟩) n c = .slice (some ⟨b, p, none⟩) m d) : a = b ∧ o = p ∧ n = m ∧ c = d := by
  injection h with h1 h2 h3; injection h1 with h1; injection h1 with h1 h4
  exact ⟨h1, h4, h2, h3⟩
theorem ROwn.at {w : World} {B g0 n cp : Nat} {rs : List R} (h : ROwn w B (.slice (some ⟨g0, 0, none⟩) n cp) rs) {k : Nat} (hk : k < rs.length) : RAt w g0 (k * 10) rs[k] ∧ (∀ i, w.frozen? ⟨g0, i, none⟩ = false) ∧ g0 < w.heap.size := by
  rcases h.2 with ⟨hv, _⟩ | ⟨g, cap, cur, hv, hB, hg, h1, h2, h3, h4⟩
  · cases hv
  · injection hv with e1 e2 e3; injection e1 with e1; injection e1 with e1
    subst e1
    obtain ⟨A, c, hv2, hsl, hf⟩ := h.form
    injection hv2 with e4
    obtain ⟨b, o, e5, hlt, hat⟩ := hsl k hk
    rw [← e4] at e5
    injection e5 with e5; injection e5 with e5 e6
    subst e5 e6
    rw [Nat.zero_add] at hat
    exact ⟨hat, fun i => frozen_of_row w g0 i _ 43 hg, hlt⟩
theorem ROwn.put {w : World} {B g0 n cp : Nat} {rs : List R} (h : ROwn w B (.slice (some ⟨g0, 0, none⟩) n cp) rs) {k : Nat} (hk : k < rs.length) (r : R) {y0 y1 y2 y3 y4 y5 y6 y7 y8 y9 : Value} (hr : r.cl = [y0, y1, y2, y3, y4, y5, y6, y7, y8, y9]) :
    ROwn ((((((((((w.setCell ⟨g0, k * 10, none⟩ y0).setCell ⟨g0, k * 10 + 1, none⟩ y1).setCell ⟨g0, k * 10 + 2, none⟩ y2).setCell ⟨g0, k * 10 + 3, none⟩ y3).setCell ⟨g0, k * 10 + 4, none⟩ y4).setCell ⟨g0, k * 10 + 5, none⟩ y5).setCell ⟨g0, k * 10 + 6, none⟩ y6).setCell ⟨g0, k * 10 + 7, none⟩ y7).setCell ⟨g0, k * 10 + 8, none⟩ y8).setCell ⟨g0, k * 10 + 9, none⟩ y9) B (.slice (some ⟨g0, 0, none⟩) n cp) (rs.set k r) := by
  rcases h.2 with ⟨hv, _⟩ | ⟨g, cap, cur, hv, hB, hg, h1, h2, h3, h4⟩
  · cases hv
  · obtain ⟨e1, _, e2, e3⟩ := slice_inj hv
    clear hv
    subst e1 e2 e3
    have hg' : w.heap[g0]? = some (.cells cur.toList.toArray 43 (0, 0)) := hg
    have hfit : k * 10 + 10 ≤ cur.toList.length := by rw [Array.length_toList, h3]; omega
    have h10 := put10 hg' hfit y0 y1 y2 y3 y4 y5 y6 y7 y8 y9
    have hls : (splice cur.toList (k * 10) [y0, y1, y2, y3, y4, y5, y6, y7, y8, y9]).length = cp * 10 := by
      rw [← hr, length_splice _ _ _ (by rw [rcl_len]; exact hfit), Array.length_toList, h3]
    clear hg hg'
    generalize (((((((((w.setCell _ _).setCell _ _).setCell _ _).setCell _ _).setCell _ _).setCell _ _).setCell _ _).setCell _ _).setCell _ _).setCell _ _ = w9 at h10 ⊢
    rw [← hr] at h10 hls
    refine ⟨by rw [rflat_len], .inr ⟨g0, cp, _, by rw [List.length_set], hB, h10, by rw [List.length_set]; exact h1, h2, by rw [List.size_toArray, hls], ?_⟩⟩
    · have hX : ((rs.take k).flatMap R.cl).length = k * 10 := by rw [rflat_len, List.length_take]; omega
      have hD : ((rs.drop (k + 1)).flatMap R.cl).length = (rs.length - (k + 1)) * 10 := by rw [rflat_len, List.length_drop]
      have hs : rs.set k r = rs.take k ++ r :: rs.drop (k + 1) := List.set_eq_take_append_cons_drop .. |>.trans (by rw [if_pos hk])
      have ho : rs.flatMap R.cl = (rs.take k).flatMap R.cl ++ rs[k].cl ++ (rs.drop (k + 1)).flatMap R.cl := by
        conv => lhs; rw [← List.take_append_drop k rs, List.drop_eq_getElem_cons hk]
        simp only [List.flatMap_append, List.flatMap_cons, List.append_assoc]
      have := splice_in ((rs.take k).flatMap R.cl) rs[k].cl r.cl ((rs.drop (k + 1)).flatMap R.cl) cur.toList rfl (by rw [hX, hD, rcl_len, ← ho, ← h4]; congr 1; omega)
      rw [hX, hD, rcl_len] at this
      rw [hs, List.flatMap_append, List.flatMap_cons, ← List.append_assoc, ← this]
      simp only [List.length_append, List.length_cons, List.length_take, List.length_drop]
      congr 1
      omega
/-- The same behind the rows' own change. -/
structure Aq (w W : World) (B q : Nat) (o0 : Option Nat) (t : T) (v : Value) (x : Array Value) : Prop where
  tab : TabAt W B q t v
  box : W.heap[w.heap.size]? = some (.cells x 38 (0, 0))
  bl : Below B w W
  ot : ∀ k, k < w.heap.size → k ≠ q → o0 ≠ some k → W.heap[k]? = w.heap[k]?
set_option maxHeartbeats 8000000 in
theorem apply_there (w : World) (B q : Nat) (t : T) (v : Value) (no tm a n via mt sq : Nat) (g : Bool) (h : TabAt w B q t v) (ht : t.Ok) (hc : C.Ok ⟨no, tm, g, a, n, via, mt, sq⟩) (hno : no = t.no + 1) (htime : t.time ≤ tm) (hlen : t.rows.length ≤ 250) (hth : thereB (key a n) t.rows = true) (hgh : g = true → ∀ r, t.rows[pos (key a n) t.rows]? = some r → r.has = true) :
    Calls Try.prog 22 #[.pointer (some ⟨q, 0, none⟩), .agg #[.int .u64 (no : Int), .int .u64 (tm : Int), .bool g, .int .u32 (a : Int), .int .u8 (n : Int), .int .i64 (via : Int), .int .u16 (mt : Int), .int .u16 (sq : Int)]] w (PutSaid w B q v.ownBlock (t.put ⟨no, tm, g, a, n, via, mt, sq⟩)) := by
  have HC := Lib.hid (And.intro hc (And.intro ht (And.intro hno (And.intro htime hlen))))
  have hn32 : n ≤ 32 := hc.2.2.2.1
  have HF : Hid (∀ W, Calls Try.prog 39 #[.agg #[.int .u64 (t.no : Int), .int .u64 (t.time : Int), .bool false, .int .u32 0, .int .u8 0, .int .i64 0, .int .u16 0, .int .u16 0], .agg #[.int .u64 (no : Int), .int .u64 (tm : Int), .bool g, .int .u32 (a : Int), .int .u8 (n : Int), .int .i64 (via : Int), .int .u16 (mt : Int), .int .u16 (sq : Int)]] W fun e w' => e = .returned (.bool true) ∧ Below W.heap.size W w') :=
    fun W => follows_any t.no t.time 0 0 0 0 0 no tm a n via mt sq false g hno htime (by have := hc.1; exact this) W
  have HR : Hid (∀ W, Calls Try.prog 38 #[.agg #[.int .u64 (no : Int), .int .u64 (tm : Int), .bool g, .int .u32 (a : Int), .int .u8 (n : Int), .int .i64 (via : Int), .int .u16 (mt : Int), .int .u16 (sq : Int)]] W fun e w' => e = .returned (.int .i64 0) ∧ Below W.heap.size W w') := fun W => right_cany ⟨no, tm, g, a, n, via, mt, sq⟩ hc W
  have A1 : Ap w (w.alloc (.cells #[.int .u64 (no : Int), .int .u64 (tm : Int), .bool g, .int .u32 (a : Int), .int .u8 (n : Int), .int .i64 (via : Int), .int .u16 (mt : Int), .int .u16 (sq : Int)] 38)) B q t v #[.int .u64 (no : Int), .int .u64 (tm : Int), .bool g, .int .u32 (a : Int), .int .u8 (n : Int), .int .i64 (via : Int), .int .u16 (mt : Int), .int .u16 (sq : Int)] := ⟨h.kept ((Below.refl _ _).alloc (Nat.le_refl _) _), heap_alloc_new w _, (Below.refl _ _).alloc (Nat.le_refl _) _⟩
  have hqw := h.lt
  have hBq := h.le
  have Hv := Lib.hid h
  obtain ⟨hp, hpk⟩ := there_yes hth
  obtain ⟨g0, cp, hv⟩ : ∃ g0 cp, v = .slice (some ⟨g0, 0, none⟩) t.rows.length cp := by
    rcases h.own.2 with ⟨_, h0⟩ | ⟨g, cap, cur, hv, _⟩
    · have : t.rows.length = 0 := h0; omega
    · exact ⟨g, cap, hv⟩
  subst hv
  have hgq : g0 ≠ q := fun e => h.ne (by rw [e]; rfl)
  have hgq' := h.ne
  have hBg : B ≤ g0 := by
    have := h.own.lt g0 rfl
    exact this.1
  have hgw : g0 < w.heap.size := (h.own.lt g0 rfl).2
  have hBw : B ≤ w.heap.size := by omega
  obtain ⟨p, hpp⟩ : ∃ p, p = pos (key a n) t.rows := ⟨_, rfl⟩
  have HAT0 : ∀ (hk : p < t.rows.length) W, ROwn W B (.slice (some ⟨g0, 0, none⟩) t.rows.length cp) t.rows → RAt W g0 (p * 10) t.rows[p] ∧ (∀ i, W.frozen? ⟨g0, i, none⟩ = false) ∧ g0 < W.heap.size := fun hk W o => o.at hk
  have hupd := upd_there (c := ⟨no, tm, g, a, n, via, mt, sq⟩) (rs := t.rows) hp hpk
  have hth' := hth
  simp only [key_mk, ← hpp] at hp hpk hupd hgh
  have hka : key t.rows[p].addr t.rows[p].len = key a n := hpk
  have hlr := (ht.ok _ (List.getElem_mem hp)).2.1
  have hak := (key_inj (by omega) (by omega)).1 hka
  have HN0 := fun W => next_any t.rows[p] ⟨no, tm, g, a, n, via, mt, sq⟩ hak.1.symm hak.2.symm W
  have hgh' : g = true → t.rows[p].has = true := fun e => hgh e _ (List.getElem?_eq_getElem hp)
  have HAT := HAT0 hp
  have HP := Lib.hid hp
  generalize hr : t.rows[p] = r at *
  obtain ⟨r2, hr2⟩ : ∃ r2, r2 = r.next ⟨no, tm, g, a, n, via, mt, sq⟩ := ⟨_, rfl⟩
  rw [← hr2] at hupd HN0
  have HNR : Hid (∀ W, Calls Try.prog 42 #[.agg #[.int .u32 (r.addr : Int), .int .u8 (r.len : Int), .bool r.has, .int .u32 (r.addr : Int), .int .u8 (r.len : Int), .int .i64 (r.via : Int), .int .u16 (r.metric : Int), .int .u16 (r.seq : Int), .int .u16 (r.ms : Int), .int .u16 (r.mm : Int)], .agg #[.int .u64 (no : Int), .int .u64 (tm : Int), .bool g, .int .u32 (a : Int), .int .u8 (n : Int), .int .i64 (via : Int), .int .u16 (mt : Int), .int .u16 (sq : Int)]] W fun e w' => e = .returned (.agg #[.int .u32 (r2.addr : Int), .int .u8 (r2.len : Int), .bool r2.has, .int .u32 (r2.addr : Int), .int .u8 (r2.len : Int), .int .i64 (r2.via : Int), .int .u16 (r2.metric : Int), .int .u16 (r2.seq : Int), .int .u16 (r2.ms : Int), .int .u16 (r2.mm : Int)]) ∧ Below W.heap.size W w') := HN0
  have HAT := Lib.hid HAT
  have HU := Lib.hid (And.intro hpp hupd)
  have HG := Lib.hid hgh'
  have hpl := hp
  clear hp hpk hpp hr hr2 HN0 HAT0 hka hak hlr hgh hgh' hupd hth
  clear hc ht hno htime h hlen
  go_enter Try.func22, Try.ntmps22
  go_upto_region 3 with (fail)
  generalize w.alloc _ = w1 at *
  obtain ⟨k0, k1, k2, k3, k4, k5, k6, k7⟩ := row8' A1.box
  have HA1 := Lib.hid A1
  clear A1
  go_upto_region 6 with ((go_at_call 38; (with_reducible refine (HR.out _).mono ?_); rintro e w2 ⟨rfl, B2⟩; have HA2 := Lib.hid (HA1.out.step B2); clear B2 HA1 k0 k1 k2 k3 k4 k5 k6 k7))
  have A2 := HA2.out
  clear HA2
  refine wp_region_noPanic ?_
  refine wp_region_held_drew (S := fun W : World => Ap w W B q t (.slice (some ⟨g0, 0, none⟩) t.rows.length cp) #[.int .u64 (no : Int), .int .u64 (tm : Int), .bool g, .int .u32 (a : Int), .int .u8 (n : Int), .int .i64 (via : Int), .int .u16 (mt : Int), .int .u16 (sq : Int)]) (by kernel_rfl) (A2.step (Below.refl _ _).drew) (fun hHeld => ?_)
  generalize w2.drew = wd at *
  refine wpAnyH_take (i := 0) (oi := { dst := some 15, op := Op.move (Operand.tmp 0), type := 26, pos := "table.go:33", after := #[], guard := none }) (v := .pointer (some ⟨q, 0, none⟩)) rfl (by kernel_rfl) (by kernel_rfl) (by kernel_rfl) (fun _ _ _ h => h) (Or.inl ⟨by rfl, fun w hSw => by go_simp⟩) (by assumption) ?_
  try simp only [Act.put, List.setIfInBounds_toArray, List.set_cons_zero, List.set_cons_succ]
  refine wpAnyH_take (i := 1) (oi := { dst := some 16, op := Op.nilCheck (Operand.tmp 15), type := 0, pos := "table.go:33", after := #[{ on := 0, ground := Ground.data }], guard := none }) (v := .pointer (some ⟨q, 0, none⟩)) rfl (by kernel_rfl) (by kernel_rfl) (by kernel_rfl) (fun _ _ _ h => h) (Or.inl ⟨by rfl, fun w hSw => by go_simp⟩) (by assumption) ?_
  try simp only [Act.put, List.setIfInBounds_toArray, List.set_cons_zero, List.set_cons_succ]
  refine wpAnyH_take (i := 2) (oi := { dst := some 17, op := Op.fieldAddr 70 (Operand.tmp 16) 1, type := 0, pos := "table.go:33", after := #[{ on := 1, ground := Ground.data }], guard := none }) (v := .pointer (some ⟨q, 1, none⟩)) rfl (by kernel_rfl) (by kernel_rfl) (by kernel_rfl) (fun _ _ _ h => h) (Or.inl ⟨by rfl, fun w hSw => by go_simp⟩) (by assumption) ?_
  try simp only [Act.put, List.setIfInBounds_toArray, List.set_cons_zero, List.set_cons_succ]
  refine wpAnyH_take (i := 3) (oi := { dst := some 18, op := Op.load 28 (Operand.tmp 17), type := 28, pos := "table.go:33", after := #[{ on := 2, ground := Ground.data }], guard := none }) (v := .int .u64 (t.no : Int)) rfl (by kernel_rfl) (by kernel_rfl) (by kernel_rfl) (fun _ _ _ h => h) (Or.inl ⟨by rfl, fun w hSw => by obtain ⟨k0, k1, k2⟩ := row3 hSw.tab.row; go_simp⟩) (by assumption) ?_
  try simp only [Act.put, List.setIfInBounds_toArray, List.set_cons_zero, List.set_cons_succ]
  refine wpAnyH_take (i := 4) (oi := { dst := some 19, op := Op.move (Operand.tmp 0), type := 26, pos := "table.go:33", after := #[], guard := none }) (v := .pointer (some ⟨q, 0, none⟩)) rfl (by kernel_rfl) (by kernel_rfl) (by kernel_rfl) (fun _ _ _ h => h) (Or.inl ⟨by rfl, fun w hSw => by go_simp⟩) (by assumption) ?_
  try simp only [Act.put, List.setIfInBounds_toArray, List.set_cons_zero, List.set_cons_succ]
  refine wpAnyH_take (i := 5) (oi := { dst := some 20, op := Op.nilCheck (Operand.tmp 19), type := 0, pos := "table.go:33", after := #[{ on := 4, ground := Ground.data }], guard := none }) (v := .pointer (some ⟨q, 0, none⟩)) rfl (by kernel_rfl) (by kernel_rfl) (by kernel_rfl) (fun _ _ _ h => h) (Or.inl ⟨by rfl, fun w hSw => by go_simp⟩) (by assumption) ?_
  try simp only [Act.put, List.setIfInBounds_toArray, List.set_cons_zero, List.set_cons_succ]
  refine wpAnyH_take (i := 6) (oi := { dst := some 21, op := Op.fieldAddr 70 (Operand.tmp 20) 2, type := 0, pos := "table.go:33", after := #[{ on := 5, ground := Ground.data }], guard := none }) (v := .pointer (some ⟨q, 2, none⟩)) rfl (by kernel_rfl) (by kernel_rfl) (by kernel_rfl) (fun _ _ _ h => h) (Or.inl ⟨by rfl, fun w hSw => by go_simp⟩) (by assumption) ?_
  try simp only [Act.put, List.setIfInBounds_toArray, List.set_cons_zero, List.set_cons_succ]
  refine wpAnyH_take (i := 7) (oi := { dst := some 22, op := Op.load 28 (Operand.tmp 21), type := 28, pos := "table.go:33", after := #[{ on := 6, ground := Ground.data }], guard := none }) (v := .int .u64 (t.time : Int)) rfl (by kernel_rfl) (by kernel_rfl) (by kernel_rfl) (fun _ _ _ h => h) (Or.inl ⟨by rfl, fun w hSw => by obtain ⟨k0, k1, k2⟩ := row3 hSw.tab.row; go_simp⟩) (by assumption) ?_
  try simp only [Act.put, List.setIfInBounds_toArray, List.set_cons_zero, List.set_cons_succ]
  refine wpAnyH_take (i := 8) (oi := { dst := some 23, op := Op.build 38 #[(0, Operand.tmp 18), (1, Operand.tmp 22)], type := 38, pos := "table.go:33", after := #[{ on := 3, ground := Ground.data }, { on := 7, ground := Ground.data }], guard := none }) (v := .agg #[.int .u64 (t.no : Int), .int .u64 (t.time : Int), .bool false, .int .u32 0, .int .u8 0, .int .i64 0, .int .u16 0, .int .u16 0]) rfl (by kernel_rfl) (by kernel_rfl) (by kernel_rfl) (fun _ _ _ h => h) (Or.inl ⟨by rfl, fun w hSw => by go_simp⟩) (by assumption) ?_
  try simp only [Act.put, List.setIfInBounds_toArray, List.set_cons_zero, List.set_cons_succ]
  refine wpAnyH_take (i := 9) (oi := { dst := some 24, op := Op.load 38 (Operand.tmp 3), type := 38, pos := "table.go:33", after := #[], guard := none }) (v := .agg #[.int .u64 (no : Int), .int .u64 (tm : Int), .bool g, .int .u32 (a : Int), .int .u8 (n : Int), .int .i64 (via : Int), .int .u16 (mt : Int), .int .u16 (sq : Int)]) rfl (by kernel_rfl) (by kernel_rfl) (by kernel_rfl) (fun _ _ _ h => h) (Or.inl ⟨by rfl, fun w hSw => by obtain ⟨k0, k1, k2, k3, k4, k5, k6, k7⟩ := row8' hSw.box; go_simp⟩) (by assumption) ?_
  try simp only [Act.put, List.setIfInBounds_toArray, List.set_cons_zero, List.set_cons_succ]
  refine wpAnyH_ready (rs := [10]) (by kernel_rfl) (by simp) ?_
  refine AllReadyH.cons (o := { dst := some 25, op := Op.call { callee := Callee.value (Operand.func 39), args := #[Operand.tmp 23, Operand.tmp 24], argTypes := #[38, 38] }, type := 4, pos := "table.go:33", after := #[{ on := 8, ground := Ground.data }, { on := 9, ground := Ground.data }], guard := none }) rfl (fun K hK => ?_) AllReadyH.nil
  go_simp
  with_reducible refine (HF.out _).mono ?_
  rintro e w3 ⟨rfl, B3⟩
  have h3 := hHeld.step B3
  refine hK.out _ _ (h3) (fun hHeld => ?_)
  clear hK K
  try simp only [Act.put, List.setIfInBounds_toArray, List.set_cons_zero, List.set_cons_succ]
  refine wpAnyH_take (i := 11) (oi := { dst := some 26, op := Op.unOp UnOp.not 4 (Operand.tmp 25), type := 4, pos := "table.go:33", after := #[{ on := 10, ground := Ground.data }], guard := none }) (v := .bool false) rfl (by kernel_rfl) (by kernel_rfl) (by kernel_rfl) (fun _ _ _ h => h) (Or.inl ⟨by rfl, fun w hSw => by go_simp⟩) (by assumption) ?_
  try simp only [Act.put, List.setIfInBounds_toArray, List.set_cons_zero, List.set_cons_succ]
  refine wpAnyH_done (by kernel_rfl) ?_ _
  try unfold NoPanic
  obtain ⟨k0, k1, k2, k3, k4, k5, k6, k7⟩ := row8' hHeld.box
  have HA3 := Lib.hid hHeld
  clear hHeld A2
  go_upto_region 10 with ((go_at_call 25; (with_reducible refine (find_any _ B q t (.slice (some ⟨g0, 0, none⟩) t.rows.length cp) HA3.out.tab HC.out.2.1 (by have := HC.out.2.2.2.2; omega) a n hn32).mono ?_); rw [← HU.out.1, hth']; rintro e w4 ⟨rfl, B4⟩; have HA4 := Lib.hid (HA3.out.step B4); clear B4 HA3 k0 k1 k2 k3 k4 k5 k6 k7))
  obtain ⟨k0, k1, k2, k3, k4, k5, k6, k7⟩ := row8' HA4.out.box
  obtain ⟨t0, t1, t2⟩ := row3 HA4.out.tab.row
  obtain ⟨⟨l0, l1, l2, l3, l4, l5, l6, l7, l8, l9⟩, lf, _⟩ := HAT.out _ HA4.out.tab.own
  clear l0 l1 l3 l4 l5 l6 l7 l8 l9 lf
  cases g
  · go_upto_region 9 with (fail)
    clear k0 k1 k2 k3 k4 k5 k6 k7 t0 t1 t2 l2
    have NX := Lib.hid (HA4.out.step (Below.refl _ _).drew)
    clear HA4
    refine wp_region_noPanic ?_
    refine wp_region_held_drew (S := fun W : World => W.heap[q]? = some (.cells #[.slice (some ⟨g0, 0, none⟩) t.rows.length cp, .int .u64 (t.no : Int), .int .u64 (t.time : Int)] 70 (0, 0)) ∧ W.heap[w.heap.size]? = some (.cells #[.int .u64 (no : Int), .int .u64 (tm : Int), .bool false, .int .u32 (a : Int), .int .u8 (n : Int), .int .i64 (via : Int), .int .u16 (mt : Int), .int .u16 (sq : Int)] 38 (0, 0))) (by kernel_rfl) ⟨NX.out.tab.row, NX.out.box⟩ (fun hHeld => ?_)
    generalize w4.drew = wd at *
    refine wpAnyH_take (i := 0) (oi := { dst := some 35, op := Op.move (Operand.tmp 0), type := 26, pos := "table.go:45", after := #[], guard := none }) (v := .pointer (some ⟨q, 0, none⟩)) rfl (by kernel_rfl) (by kernel_rfl) (by kernel_rfl) (fun _ _ _ h => h) (Or.inl ⟨by rfl, fun w hSw => by go_simp⟩) (by assumption) ?_
    try simp only [Act.put, List.setIfInBounds_toArray, List.set_cons_zero, List.set_cons_succ]
    refine wpAnyH_take (i := 1) (oi := { dst := some 36, op := Op.nilCheck (Operand.tmp 35), type := 0, pos := "table.go:45", after := #[{ on := 0, ground := Ground.data }], guard := none }) (v := .pointer (some ⟨q, 0, none⟩)) rfl (by kernel_rfl) (by kernel_rfl) (by kernel_rfl) (fun _ _ _ h => h) (Or.inl ⟨by rfl, fun w hSw => by go_simp⟩) (by assumption) ?_
    try simp only [Act.put, List.setIfInBounds_toArray, List.set_cons_zero, List.set_cons_succ]
    refine wpAnyH_take (i := 2) (oi := { dst := some 37, op := Op.fieldAddr 70 (Operand.tmp 36) 0, type := 0, pos := "table.go:45", after := #[{ on := 1, ground := Ground.data }], guard := none }) (v := .pointer (some ⟨q, 0, none⟩)) rfl (by kernel_rfl) (by kernel_rfl) (by kernel_rfl) (fun _ _ _ h => h) (Or.inl ⟨by rfl, fun w hSw => by go_simp⟩) (by assumption) ?_
    try simp only [Act.put, List.setIfInBounds_toArray, List.set_cons_zero, List.set_cons_succ]
    refine wpAnyH_take (i := 3) (oi := { dst := some 38, op := Op.load 48 (Operand.tmp 37), type := 48, pos := "table.go:45", after := #[{ on := 2, ground := Ground.data }], guard := none }) (v := .slice (some ⟨g0, 0, none⟩) t.rows.length cp) rfl (by kernel_rfl) (by kernel_rfl) (by kernel_rfl) (fun _ _ _ h => h) (Or.inl ⟨by rfl, fun w hSw => by obtain ⟨k0, k1, k2⟩ := row3 hSw.1; go_simp⟩) (by assumption) ?_
    try simp only [Act.put, List.setIfInBounds_toArray, List.set_cons_zero, List.set_cons_succ]
    refine wpAnyH_take (i := 4) (oi := { dst := some 39, op := Op.move (Operand.tmp 6), type := 3, pos := "table.go:45", after := #[], guard := none }) (v := .int .i64 (p : Int)) rfl (by kernel_rfl) (by kernel_rfl) (by kernel_rfl) (fun _ _ _ h => h) (Or.inl ⟨by rfl, fun w hSw => by go_simp⟩) (by assumption) ?_
    try simp only [Act.put, List.setIfInBounds_toArray, List.set_cons_zero, List.set_cons_succ]
    refine wpAnyH_take (i := 5) (oi := { dst := some 40, op := Op.move (Operand.tmp 0), type := 26, pos := "table.go:45", after := #[], guard := none }) (v := .pointer (some ⟨q, 0, none⟩)) rfl (by kernel_rfl) (by kernel_rfl) (by kernel_rfl) (fun _ _ _ h => h) (Or.inl ⟨by rfl, fun w hSw => by go_simp⟩) (by assumption) ?_
    try simp only [Act.put, List.setIfInBounds_toArray, List.set_cons_zero, List.set_cons_succ]
    refine wpAnyH_take (i := 6) (oi := { dst := some 41, op := Op.nilCheck (Operand.tmp 40), type := 0, pos := "table.go:45", after := #[{ on := 5, ground := Ground.data }], guard := none }) (v := .pointer (some ⟨q, 0, none⟩)) rfl (by kernel_rfl) (by kernel_rfl) (by kernel_rfl) (fun _ _ _ h => h) (Or.inl ⟨by rfl, fun w hSw => by go_simp⟩) (by assumption) ?_
    try simp only [Act.put, List.setIfInBounds_toArray, List.set_cons_zero, List.set_cons_succ]
    refine wpAnyH_take (i := 7) (oi := { dst := some 42, op := Op.fieldAddr 70 (Operand.tmp 41) 0, type := 0, pos := "table.go:45", after := #[{ on := 6, ground := Ground.data }], guard := none }) (v := .pointer (some ⟨q, 0, none⟩)) rfl (by kernel_rfl) (by kernel_rfl) (by kernel_rfl) (fun _ _ _ h => h) (Or.inl ⟨by rfl, fun w hSw => by go_simp⟩) (by assumption) ?_
    try simp only [Act.put, List.setIfInBounds_toArray, List.set_cons_zero, List.set_cons_succ]
    refine wpAnyH_take (i := 8) (oi := { dst := some 43, op := Op.load 48 (Operand.tmp 42), type := 48, pos := "table.go:45", after := #[{ on := 7, ground := Ground.data }], guard := none }) (v := .slice (some ⟨g0, 0, none⟩) t.rows.length cp) rfl (by kernel_rfl) (by kernel_rfl) (by kernel_rfl) (fun _ _ _ h => h) (Or.inl ⟨by rfl, fun w hSw => by obtain ⟨k0, k1, k2⟩ := row3 hSw.1; go_simp⟩) (by assumption) ?_
    try simp only [Act.put, List.setIfInBounds_toArray, List.set_cons_zero, List.set_cons_succ]
    refine wpAnyH_take (i := 9) (oi := { dst := some 44, op := Op.move (Operand.tmp 6), type := 3, pos := "table.go:45", after := #[], guard := none }) (v := .int .i64 (p : Int)) rfl (by kernel_rfl) (by kernel_rfl) (by kernel_rfl) (fun _ _ _ h => h) (Or.inl ⟨by rfl, fun w hSw => by go_simp⟩) (by assumption) ?_
    try simp only [Act.put, List.setIfInBounds_toArray, List.set_cons_zero, List.set_cons_succ]
    refine wpAnyH_take (i := 10) (oi := { dst := some 45, op := Op.indexAddr 48 (Operand.tmp 43) (Operand.tmp 44), type := 0, pos := "table.go:45", after := #[{ on := 8, ground := Ground.data }, { on := 9, ground := Ground.data }], guard := none }) (v := .pointer (some ⟨g0, p * 10, none⟩)) rfl (by kernel_rfl) (by kernel_rfl) (by kernel_rfl) (fun _ _ _ h => h) (Or.inl ⟨by rfl, fun w hSw => by go_simp⟩) (by assumption) ?_
    try simp only [Act.put, List.setIfInBounds_toArray, List.set_cons_zero, List.set_cons_succ]
    refine wpAnyH_take (i := 12) (oi := { dst := some 47, op := Op.load 38 (Operand.tmp 3), type := 38, pos := "table.go:45", after := #[], guard := none }) (v := .agg #[.int .u64 (no : Int), .int .u64 (tm : Int), .bool false, .int .u32 (a : Int), .int .u8 (n : Int), .int .i64 (via : Int), .int .u16 (mt : Int), .int .u16 (sq : Int)]) rfl (by kernel_rfl) (by kernel_rfl) (by kernel_rfl) (fun _ _ _ h => h) (Or.inl ⟨by rfl, fun w hSw => by obtain ⟨k0, k1, k2, k3, k4, k5, k6, k7⟩ := row8' hSw.2; go_simp⟩) (by assumption) ?_
    try simp only [Act.put, List.setIfInBounds_toArray, List.set_cons_zero, List.set_cons_succ]
    refine wpAnyH_ready (rs := [11]) (by kernel_rfl) (by simp) ?_
    refine AllReadyH.cons (o := { dst := some 46, op := Op.load 43 (Operand.tmp 45), type := 43, pos := "table.go:45", after := #[{ on := 10, ground := Ground.data }], guard := none }) rfl (fun K hK => ?_) AllReadyH.nil
    obtain ⟨⟨l0, l1, l2, l3, l4, l5, l6, l7, l8, l9⟩, lf, _⟩ := HAT.out _ NX.out.tab.own
    go_simp
    refine hK.out _ _ (⟨NX.out.tab.row, NX.out.box⟩) (fun hHeld => ?_)
    clear hK K
    try simp only [Act.put, List.setIfInBounds_toArray, List.set_cons_zero, List.set_cons_succ]
    clear l0 l1 l2 l3 l4 l5 l6 l7 l8 l9 lf
    refine wpAnyH_ready (rs := [13]) (by kernel_rfl) (by simp) ?_
    refine AllReadyH.cons (o := { dst := some 48, op := Op.call { callee := Callee.value (Operand.func 42), args := #[Operand.tmp 46, Operand.tmp 47], argTypes := #[43, 38] }, type := 43, pos := "table.go:45", after := #[{ on := 11, ground := Ground.data }, { on := 12, ground := Ground.data }], guard := none }) rfl (fun K hK => ?_) AllReadyH.nil
    go_simp
    with_reducible refine (HNR.out _).mono ?_
    rintro e w5 ⟨rfl, B5⟩
    replace NX := Lib.hid (NX.out.step B5)
    refine hK.out _ _ (⟨NX.out.tab.row, NX.out.box⟩) (fun hHeld => ?_)
    clear hK K
    try simp only [Act.put, List.setIfInBounds_toArray, List.set_cons_zero, List.set_cons_succ]
    clear B5
    refine wpAnyH_take (i := 14) (oi := { dst := some 49, op := Op.indexAddr 48 (Operand.tmp 38) (Operand.tmp 39), type := 0, pos := "table.go:45", after := #[{ on := 3, ground := Ground.data }, { on := 4, ground := Ground.data }, { on := 0, ground := Ground.phase }, { on := 1, ground := Ground.phase }, { on := 2, ground := Ground.phase }, { on := 3, ground := Ground.phase }, { on := 4, ground := Ground.phase }, { on := 5, ground := Ground.phase }, { on := 6, ground := Ground.phase }, { on := 7, ground := Ground.phase }, { on := 8, ground := Ground.phase }, { on := 9, ground := Ground.phase }, { on := 10, ground := Ground.phase }, { on := 11, ground := Ground.phase }, { on := 12, ground := Ground.phase }, { on := 13, ground := Ground.phase }], guard := none }) (v := .pointer (some ⟨g0, p * 10, none⟩)) rfl (by kernel_rfl) (by kernel_rfl) (by kernel_rfl) (fun _ _ _ h => h) (Or.inl ⟨by rfl, fun w hSw => by go_simp⟩) (by assumption) ?_
    try simp only [Act.put, List.setIfInBounds_toArray, List.set_cons_zero, List.set_cons_succ]
    refine wpAnyH_ready (rs := [15]) (by kernel_rfl) (by simp) ?_
    refine AllReadyH.cons (o := { dst := none, op := Op.store 43 (Operand.tmp 49) (Operand.tmp 48), type := 0, pos := "table.go:45", after := #[{ on := 14, ground := Ground.data }, { on := 13, ground := Ground.data }, { on := 13, ground := Ground.chain }, { on := 0, ground := Ground.phase }, { on := 1, ground := Ground.phase }, { on := 2, ground := Ground.phase }, { on := 3, ground := Ground.phase }, { on := 4, ground := Ground.phase }, { on := 5, ground := Ground.phase }, { on := 6, ground := Ground.phase }, { on := 7, ground := Ground.phase }, { on := 8, ground := Ground.phase }, { on := 9, ground := Ground.phase }, { on := 10, ground := Ground.phase }, { on := 11, ground := Ground.phase }, { on := 12, ground := Ground.phase }, { on := 13, ground := Ground.phase }], guard := none }) rfl (fun K hK => ?_) AllReadyH.nil
    obtain ⟨⟨l0, l1, l2, l3, l4, l5, l6, l7, l8, l9⟩, lf, _⟩ := HAT.out _ NX.out.tab.own
    go_simp
    have O6 := NX.out.tab.own.put HP.out r2 rfl
    have G6 := grown10 w5 g0 (p * 10) (.int .u32 (r2.addr : Int)) (.int .u8 (r2.len : Int)) (.bool r2.has) (.int .u32 (r2.addr : Int)) (.int .u8 (r2.len : Int)) (.int .i64 (r2.via : Int)) (.int .u16 (r2.metric : Int)) (.int .u16 (r2.seq : Int)) (.int .u16 (r2.ms : Int)) (.int .u16 (r2.mm : Int))
    clear l0 l1 l2 l3 l4 l5 l6 l7 l8 l9 lf
    generalize (((((((((w5.setCell _ _).setCell _ _).setCell _ _).setCell _ _).setCell _ _).setCell _ _).setCell _ _).setCell _ _).setCell _ _).setCell _ _ = wq at *
    have T6 := (G6.block q (by have := NX.out.tab.lt; exact this) (by intro e; injection e with e; exact hgq e.symm)).trans NX.out.tab.row
    have X6 := (G6.block w.heap.size (Array.getElem?_eq_some_iff.1 NX.out.box).1 (by intro e; injection e with e; omega)).trans NX.out.box
    have L6 := (NX.out.bl.mono hBw).trans (below_of_grown G6 (Nat.le_trans hBw NX.out.bl.size) (fun k e => by injection e with e; subst e; exact hBg))
    have HQ := Lib.hid (show Aq w wq B q (some g0) ⟨t.rows.set p r2, t.no, t.time⟩ (.slice (some ⟨g0, 0, none⟩) t.rows.length cp) #[.int .u64 (no : Int), .int .u64 (tm : Int), .bool false, .int .u32 (a : Int), .int .u8 (n : Int), .int .i64 (via : Int), .int .u16 (mt : Int), .int .u16 (sq : Int)] from ⟨⟨T6, O6, hgq', hBq⟩, X6, L6, fun k hk h1 h2 => (G6.block k (Nat.lt_of_lt_of_le hk NX.out.bl.size) (fun e => h2 e.symm)).trans (NX.out.bl.block k hk)⟩)
    clear O6 G6
    refine hK.out _ _ ⟨T6, X6⟩ (fun hHeld => ?_)
    clear hK K
    try simp only [Act.put, List.setIfInBounds_toArray, List.set_cons_zero, List.set_cons_succ]
    clear T6 X6 L6 hHeld NX
    refine wpAnyH_done (by kernel_rfl) ?_ _
    try unfold NoPanic
    go_upto_region 16 with (fail)
    have HQ := Lib.hid (show Aq w wq.drew B q _ _ _ _ from ⟨HQ.out.tab.kept (Below.refl _ _).drew, HQ.out.box, HQ.out.bl.drew, HQ.out.ot⟩)
    refine wp_region_noPanic ?_
    refine wp_region_held_drew (S := fun W : World => W.heap[w.heap.size]? = some (.cells #[.int .u64 (no : Int), .int .u64 (tm : Int), .bool false, .int .u32 (a : Int), .int .u8 (n : Int), .int .i64 (via : Int), .int .u16 (mt : Int), .int .u16 (sq : Int)] 38 (0, 0))) (by kernel_rfl) HQ.out.box (fun hHeld => ?_)
    generalize wq.drew = wd at *
    refine wpAnyH_take (i := 0) (oi := { dst := some 94, op := Op.move (Operand.tmp 0), type := 26, pos := "table.go:47", after := #[], guard := none }) (v := .pointer (some ⟨q, 0, none⟩)) rfl (by kernel_rfl) (by kernel_rfl) (by kernel_rfl) (fun _ _ _ h => h) (Or.inl ⟨by rfl, fun w hSw => by go_simp⟩) (by assumption) ?_
    try simp only [Act.put, List.setIfInBounds_toArray, List.set_cons_zero, List.set_cons_succ]
    refine wpAnyH_take (i := 1) (oi := { dst := some 95, op := Op.move (Operand.tmp 0), type := 26, pos := "table.go:47", after := #[{ on := 8, ground := Ground.gcOnly Departure.lateStores }], guard := none }) (v := .pointer (some ⟨q, 0, none⟩)) rfl (by kernel_rfl) (by kernel_rfl) (by kernel_rfl) (fun _ _ _ h => h) (Or.inl ⟨by rfl, fun w hSw => by go_simp⟩) (by assumption) ?_
    try simp only [Act.put, List.setIfInBounds_toArray, List.set_cons_zero, List.set_cons_succ]
    refine wpAnyH_take (i := 2) (oi := { dst := some 96, op := Op.fieldAddr 38 (Operand.tmp 3) 0, type := 0, pos := "table.go:47", after := #[], guard := none }) (v := .pointer (some ⟨w.heap.size, 0, none⟩)) rfl (by kernel_rfl) (by kernel_rfl) (by kernel_rfl) (fun _ _ _ h => h) (Or.inl ⟨by rfl, fun w hSw => by go_simp⟩) (by assumption) ?_
    try simp only [Act.put, List.setIfInBounds_toArray, List.set_cons_zero, List.set_cons_succ]
    refine wpAnyH_take (i := 3) (oi := { dst := some 97, op := Op.load 28 (Operand.tmp 96), type := 28, pos := "table.go:47", after := #[{ on := 2, ground := Ground.data }], guard := none }) (v := .int .u64 (no : Int)) rfl (by kernel_rfl) (by kernel_rfl) (by kernel_rfl) (fun _ _ _ h => h) (Or.inl ⟨by rfl, fun w hSw => by obtain ⟨k0, k1, k2, k3, k4, k5, k6, k7⟩ := row8' hSw; go_simp⟩) (by assumption) ?_
    try simp only [Act.put, List.setIfInBounds_toArray, List.set_cons_zero, List.set_cons_succ]
    refine wpAnyH_take (i := 4) (oi := { dst := some 98, op := Op.fieldAddr 38 (Operand.tmp 3) 1, type := 0, pos := "table.go:47", after := #[{ on := 8, ground := Ground.gcOnly Departure.lateStores }], guard := none }) (v := .pointer (some ⟨w.heap.size, 1, none⟩)) rfl (by kernel_rfl) (by kernel_rfl) (by kernel_rfl) (fun _ _ _ h => h) (Or.inl ⟨by rfl, fun w hSw => by go_simp⟩) (by assumption) ?_
    try simp only [Act.put, List.setIfInBounds_toArray, List.set_cons_zero, List.set_cons_succ]
    refine wpAnyH_take (i := 5) (oi := { dst := some 99, op := Op.load 28 (Operand.tmp 98), type := 28, pos := "table.go:47", after := #[{ on := 4, ground := Ground.data }, { on := 8, ground := Ground.gcOnly Departure.lateStores }], guard := none }) (v := .int .u64 (tm : Int)) rfl (by kernel_rfl) (by kernel_rfl) (by kernel_rfl) (fun _ _ _ h => h) (Or.inl ⟨by rfl, fun w hSw => by obtain ⟨k0, k1, k2, k3, k4, k5, k6, k7⟩ := row8' hSw; go_simp⟩) (by assumption) ?_
    try simp only [Act.put, List.setIfInBounds_toArray, List.set_cons_zero, List.set_cons_succ]
    refine wpAnyH_take (i := 6) (oi := { dst := some 100, op := Op.nilCheck (Operand.tmp 94), type := 0, pos := "table.go:47", after := #[{ on := 0, ground := Ground.data }, { on := 0, ground := Ground.phase }, { on := 1, ground := Ground.textOnly Departure.lateStores }, { on := 2, ground := Ground.phase }, { on := 3, ground := Ground.phase }, { on := 4, ground := Ground.textOnly Departure.lateStores }, { on := 5, ground := Ground.textOnly Departure.lateStores }], guard := none }) (v := .pointer (some ⟨q, 0, none⟩)) rfl (by kernel_rfl) (by kernel_rfl) (by kernel_rfl) (fun _ _ _ h => h) (Or.inl ⟨by rfl, fun w hSw => by go_simp⟩) (by assumption) ?_
    try simp only [Act.put, List.setIfInBounds_toArray, List.set_cons_zero, List.set_cons_succ]
    refine wpAnyH_take (i := 7) (oi := { dst := some 101, op := Op.fieldAddr 70 (Operand.tmp 100) 1, type := 0, pos := "table.go:47", after := #[{ on := 6, ground := Ground.data }, { on := 0, ground := Ground.phase }, { on := 1, ground := Ground.textOnly Departure.lateStores }, { on := 2, ground := Ground.phase }, { on := 3, ground := Ground.phase }, { on := 4, ground := Ground.textOnly Departure.lateStores }, { on := 5, ground := Ground.textOnly Departure.lateStores }], guard := none }) (v := .pointer (some ⟨q, 1, none⟩)) rfl (by kernel_rfl) (by kernel_rfl) (by kernel_rfl) (fun _ _ _ h => h) (Or.inl ⟨by rfl, fun w hSw => by go_simp⟩) (by assumption) ?_
    try simp only [Act.put, List.setIfInBounds_toArray, List.set_cons_zero, List.set_cons_succ]
    refine wpAnyH_ready (rs := [8]) (by kernel_rfl) (by simp) ?_
    refine AllReadyH.cons (o := { dst := none, op := Op.store 28 (Operand.tmp 101) (Operand.tmp 97), type := 0, pos := "table.go:47", after := #[{ on := 7, ground := Ground.data }, { on := 3, ground := Ground.data }, { on := 0, ground := Ground.phase }, { on := 1, ground := Ground.textOnly Departure.lateStores }, { on := 2, ground := Ground.phase }, { on := 3, ground := Ground.phase }, { on := 4, ground := Ground.textOnly Departure.lateStores }, { on := 5, ground := Ground.textOnly Departure.lateStores }], guard := none }) rfl (fun K hK => ?_) AllReadyH.nil
    obtain ⟨l0, l1, l2⟩ := row3 HQ.out.tab.row
    have lf := fun i => frozen_of_row _ q i _ 70 HQ.out.tab.row
    go_simp
    have N1 := (heap_setCell_same _ q 1 _ 70 (.int .u64 (no : Int)) HQ.out.tab.row)
    have O1 := HQ.out.tab.own.keptBut (grown_setCell wd q 1 (.int .u64 (no : Int))) HQ.out.tab.ne
    have X1 := (Below.heap_setCell wd ⟨q, 1, none⟩ (.int .u64 (no : Int)) w.heap.size (by show w.heap.size ≠ q; omega)).trans HQ.out.box
    have L1 := HQ.out.bl.setCell (p := ⟨q, 1, none⟩) hBq (.int .u64 (no : Int))
    have HV := Lib.hid HQ.out.tab.ne
    have K1 : Hid (∀ k, k < w.heap.size → k ≠ q → _ → (wd.setCell ⟨q, 1, none⟩ (.int .u64 (no : Int))).heap[k]? = w.heap[k]?) := fun k hk h1 h2 => (Below.heap_setCell wd ⟨q, 1, none⟩ (.int .u64 (no : Int)) k h1).trans (HQ.out.ot k hk h1 h2)
    have N1 := (show (wd.setCell ⟨q, 1, none⟩ (.int .u64 (no : Int))).heap[q]? = some (.cells #[.slice (some ⟨g0, 0, none⟩) t.rows.length cp, .int .u64 (no : Int), .int .u64 (t.time : Int)] 70 (0, 0)) from N1)
    clear l0 l1 l2 lf
    generalize wd.setCell _ _ = wm at *
    refine hK.out _ _ X1 (fun hHeld => ?_)
    clear hK K
    try simp only [Act.put, List.setIfInBounds_toArray, List.set_cons_zero, List.set_cons_succ]
    have HN := Lib.hid (And.intro N1 (And.intro O1 (And.intro X1 L1)))
    clear N1 O1 X1 L1
    refine wpAnyH_take (i := 9) (oi := { dst := some 102, op := Op.nilCheck (Operand.tmp 95), type := 0, pos := "table.go:47", after := #[{ on := 1, ground := Ground.data }, { on := 0, ground := Ground.phase }, { on := 1, ground := Ground.phase }, { on := 2, ground := Ground.phase }, { on := 3, ground := Ground.phase }, { on := 4, ground := Ground.phase }, { on := 5, ground := Ground.phase }, { on := 6, ground := Ground.phase }, { on := 7, ground := Ground.phase }, { on := 8, ground := Ground.phase }], guard := none }) (v := .pointer (some ⟨q, 0, none⟩)) rfl (by kernel_rfl) (by kernel_rfl) (by kernel_rfl) (fun _ _ _ h => h) (Or.inl ⟨by rfl, fun w hSw => by go_simp⟩) (by assumption) ?_
    try simp only [Act.put, List.setIfInBounds_toArray, List.set_cons_zero, List.set_cons_succ]
    refine wpAnyH_take (i := 10) (oi := { dst := some 103, op := Op.fieldAddr 70 (Operand.tmp 102) 2, type := 0, pos := "table.go:47", after := #[{ on := 9, ground := Ground.data }, { on := 0, ground := Ground.phase }, { on := 1, ground := Ground.phase }, { on := 2, ground := Ground.phase }, { on := 3, ground := Ground.phase }, { on := 4, ground := Ground.phase }, { on := 5, ground := Ground.phase }, { on := 6, ground := Ground.phase }, { on := 7, ground := Ground.phase }, { on := 8, ground := Ground.phase }], guard := none }) (v := .pointer (some ⟨q, 2, none⟩)) rfl (by kernel_rfl) (by kernel_rfl) (by kernel_rfl) (fun _ _ _ h => h) (Or.inl ⟨by rfl, fun w hSw => by go_simp⟩) (by assumption) ?_
    try simp only [Act.put, List.setIfInBounds_toArray, List.set_cons_zero, List.set_cons_succ]
    refine wpAnyH_ready (rs := [11]) (by kernel_rfl) (by simp) ?_
    refine AllReadyH.cons (o := { dst := none, op := Op.store 28 (Operand.tmp 103) (Operand.tmp 99), type := 0, pos := "table.go:47", after := #[{ on := 10, ground := Ground.data }, { on := 5, ground := Ground.data }, { on := 8, ground := Ground.chain }, { on := 0, ground := Ground.phase }, { on := 1, ground := Ground.phase }, { on := 2, ground := Ground.phase }, { on := 3, ground := Ground.phase }, { on := 4, ground := Ground.phase }, { on := 5, ground := Ground.phase }, { on := 6, ground := Ground.phase }, { on := 7, ground := Ground.phase }, { on := 8, ground := Ground.phase }], guard := none }) rfl (fun K hK => ?_) AllReadyH.nil
    obtain ⟨l0, l1, l2⟩ := row3 HN.out.1
    have lf := fun i => frozen_of_row _ q i _ 70 HN.out.1
    go_simp
    have N2 := (show (wm.setCell ⟨q, 2, none⟩ (.int .u64 (tm : Int))).heap[q]? = some (.cells #[.slice (some ⟨g0, 0, none⟩) t.rows.length cp, .int .u64 (no : Int), .int .u64 (tm : Int)] 70 (0, 0)) from heap_setCell_same _ q 2 _ 70 (.int .u64 (tm : Int)) HN.out.1)
    have O2 := HN.out.2.1.keptBut (grown_setCell wm q 2 (.int .u64 (tm : Int))) HV.out
    have X2 := (Below.heap_setCell wm ⟨q, 2, none⟩ (.int .u64 (tm : Int)) w.heap.size (by show w.heap.size ≠ q; omega)).trans HN.out.2.2.1
    have K2 : Hid (∀ k, k < w.heap.size → k ≠ q → _ → (wm.setCell ⟨q, 2, none⟩ (.int .u64 (tm : Int))).heap[k]? = w.heap[k]?) := fun k hk h1 h2 => (Below.heap_setCell wm ⟨q, 2, none⟩ (.int .u64 (tm : Int)) k h1).trans (K1.out k hk h1 h2)
    have L2 := HN.out.2.2.2.setCell (p := ⟨q, 2, none⟩) hBq (.int .u64 (tm : Int))
    clear l0 l1 l2 lf
    generalize wm.setCell _ _ = wn at *
    refine hK.out _ _ X2 (fun hHeld => ?_)
    clear hK K
    try simp only [Act.put, List.setIfInBounds_toArray, List.set_cons_zero, List.set_cons_succ]
    refine wpAnyH_done (by kernel_rfl) ?_ _
    try unfold NoPanic
    go_wp2
    go_ret
    exact ⟨_, rfl, ⟨show wn.heap[q]? = some (.cells #[_, .int .u64 (no : Int), .int .u64 (tm : Int)] 70 (0, 0)) from N2, by show ROwn _ _ _ (upd _ t.rows); rw [HU.out.2]; exact O2, HV.out, hBq⟩, L2, K2.out⟩
  · have hh := HG.out rfl
    rw [hh] at l2
    clear hh
    go_upto_region 9 with (fail)
    clear k0 k1 k2 k3 k4 k5 k6 k7 t0 t1 t2 l2
    have NX := Lib.hid (HA4.out.step (Below.refl _ _).drew)
    clear HA4
    refine wp_region_noPanic ?_
    refine wp_region_held_drew (S := fun W : World => W.heap[q]? = some (.cells #[.slice (some ⟨g0, 0, none⟩) t.rows.length cp, .int .u64 (t.no : Int), .int .u64 (t.time : Int)] 70 (0, 0)) ∧ W.heap[w.heap.size]? = some (.cells #[.int .u64 (no : Int), .int .u64 (tm : Int), .bool true, .int .u32 (a : Int), .int .u8 (n : Int), .int .i64 (via : Int), .int .u16 (mt : Int), .int .u16 (sq : Int)] 38 (0, 0))) (by kernel_rfl) ⟨NX.out.tab.row, NX.out.box⟩ (fun hHeld => ?_)
    generalize w4.drew = wd at *
    refine wpAnyH_take (i := 0) (oi := { dst := some 35, op := Op.move (Operand.tmp 0), type := 26, pos := "table.go:45", after := #[], guard := none }) (v := .pointer (some ⟨q, 0, none⟩)) rfl (by kernel_rfl) (by kernel_rfl) (by kernel_rfl) (fun _ _ _ h => h) (Or.inl ⟨by rfl, fun w hSw => by go_simp⟩) (by assumption) ?_
    try simp only [Act.put, List.setIfInBounds_toArray, List.set_cons_zero, List.set_cons_succ]
    refine wpAnyH_take (i := 1) (oi := { dst := some 36, op := Op.nilCheck (Operand.tmp 35), type := 0, pos := "table.go:45", after := #[{ on := 0, ground := Ground.data }], guard := none }) (v := .pointer (some ⟨q, 0, none⟩)) rfl (by kernel_rfl) (by kernel_rfl) (by kernel_rfl) (fun _ _ _ h => h) (Or.inl ⟨by rfl, fun w hSw => by go_simp⟩) (by assumption) ?_
    try simp only [Act.put, List.setIfInBounds_toArray, List.set_cons_zero, List.set_cons_succ]
    refine wpAnyH_take (i := 2) (oi := { dst := some 37, op := Op.fieldAddr 70 (Operand.tmp 36) 0, type := 0, pos := "table.go:45", after := #[{ on := 1, ground := Ground.data }], guard := none }) (v := .pointer (some ⟨q, 0, none⟩)) rfl (by kernel_rfl) (by kernel_rfl) (by kernel_rfl) (fun _ _ _ h => h) (Or.inl ⟨by rfl, fun w hSw => by go_simp⟩) (by assumption) ?_
    try simp only [Act.put, List.setIfInBounds_toArray, List.set_cons_zero, List.set_cons_succ]
    refine wpAnyH_take (i := 3) (oi := { dst := some 38, op := Op.load 48 (Operand.tmp 37), type := 48, pos := "table.go:45", after := #[{ on := 2, ground := Ground.data }], guard := none }) (v := .slice (some ⟨g0, 0, none⟩) t.rows.length cp) rfl (by kernel_rfl) (by kernel_rfl) (by kernel_rfl) (fun _ _ _ h => h) (Or.inl ⟨by rfl, fun w hSw => by obtain ⟨k0, k1, k2⟩ := row3 hSw.1; go_simp⟩) (by assumption) ?_
    try simp only [Act.put, List.setIfInBounds_toArray, List.set_cons_zero, List.set_cons_succ]
    refine wpAnyH_take (i := 4) (oi := { dst := some 39, op := Op.move (Operand.tmp 6), type := 3, pos := "table.go:45", after := #[], guard := none }) (v := .int .i64 (p : Int)) rfl (by kernel_rfl) (by kernel_rfl) (by kernel_rfl) (fun _ _ _ h => h) (Or.inl ⟨by rfl, fun w hSw => by go_simp⟩) (by assumption) ?_
    try simp only [Act.put, List.setIfInBounds_toArray, List.set_cons_zero, List.set_cons_succ]
    refine wpAnyH_take (i := 5) (oi := { dst := some 40, op := Op.move (Operand.tmp 0), type := 26, pos := "table.go:45", after := #[], guard := none }) (v := .pointer (some ⟨q, 0, none⟩)) rfl (by kernel_rfl) (by kernel_rfl) (by kernel_rfl) (fun _ _ _ h => h) (Or.inl ⟨by rfl, fun w hSw => by go_simp⟩) (by assumption) ?_
    try simp only [Act.put, List.setIfInBounds_toArray, List.set_cons_zero, List.set_cons_succ]
    refine wpAnyH_take (i := 6) (oi := { dst := some 41, op := Op.nilCheck (Operand.tmp 40), type := 0, pos := "table.go:45", after := #[{ on := 5, ground := Ground.data }], guard := none }) (v := .pointer (some ⟨q, 0, none⟩)) rfl (by kernel_rfl) (by kernel_rfl) (by kernel_rfl) (fun _ _ _ h => h) (Or.inl ⟨by rfl, fun w hSw => by go_simp⟩) (by assumption) ?_
    try simp only [Act.put, List.setIfInBounds_toArray, List.set_cons_zero, List.set_cons_succ]
    refine wpAnyH_take (i := 7) (oi := { dst := some 42, op := Op.fieldAddr 70 (Operand.tmp 41) 0, type := 0, pos := "table.go:45", after := #[{ on := 6, ground := Ground.data }], guard := none }) (v := .pointer (some ⟨q, 0, none⟩)) rfl (by kernel_rfl) (by kernel_rfl) (by kernel_rfl) (fun _ _ _ h => h) (Or.inl ⟨by rfl, fun w hSw => by go_simp⟩) (by assumption) ?_
    try simp only [Act.put, List.setIfInBounds_toArray, List.set_cons_zero, List.set_cons_succ]
    refine wpAnyH_take (i := 8) (oi := { dst := some 43, op := Op.load 48 (Operand.tmp 42), type := 48, pos := "table.go:45", after := #[{ on := 7, ground := Ground.data }], guard := none }) (v := .slice (some ⟨g0, 0, none⟩) t.rows.length cp) rfl (by kernel_rfl) (by kernel_rfl) (by kernel_rfl) (fun _ _ _ h => h) (Or.inl ⟨by rfl, fun w hSw => by obtain ⟨k0, k1, k2⟩ := row3 hSw.1; go_simp⟩) (by assumption) ?_
    try simp only [Act.put, List.setIfInBounds_toArray, List.set_cons_zero, List.set_cons_succ]
    refine wpAnyH_take (i := 9) (oi := { dst := some 44, op := Op.move (Operand.tmp 6), type := 3, pos := "table.go:45", after := #[], guard := none }) (v := .int .i64 (p : Int)) rfl (by kernel_rfl) (by kernel_rfl) (by kernel_rfl) (fun _ _ _ h => h) (Or.inl ⟨by rfl, fun w hSw => by go_simp⟩) (by assumption) ?_
    try simp only [Act.put, List.setIfInBounds_toArray, List.set_cons_zero, List.set_cons_succ]
    refine wpAnyH_take (i := 10) (oi := { dst := some 45, op := Op.indexAddr 48 (Operand.tmp 43) (Operand.tmp 44), type := 0, pos := "table.go:45", after := #[{ on := 8, ground := Ground.data }, { on := 9, ground := Ground.data }], guard := none }) (v := .pointer (some ⟨g0, p * 10, none⟩)) rfl (by kernel_rfl) (by kernel_rfl) (by kernel_rfl) (fun _ _ _ h => h) (Or.inl ⟨by rfl, fun w hSw => by go_simp⟩) (by assumption) ?_
    try simp only [Act.put, List.setIfInBounds_toArray, List.set_cons_zero, List.set_cons_succ]
    refine wpAnyH_take (i := 12) (oi := { dst := some 47, op := Op.load 38 (Operand.tmp 3), type := 38, pos := "table.go:45", after := #[], guard := none }) (v := .agg #[.int .u64 (no : Int), .int .u64 (tm : Int), .bool true, .int .u32 (a : Int), .int .u8 (n : Int), .int .i64 (via : Int), .int .u16 (mt : Int), .int .u16 (sq : Int)]) rfl (by kernel_rfl) (by kernel_rfl) (by kernel_rfl) (fun _ _ _ h => h) (Or.inl ⟨by rfl, fun w hSw => by obtain ⟨k0, k1, k2, k3, k4, k5, k6, k7⟩ := row8' hSw.2; go_simp⟩) (by assumption) ?_
    try simp only [Act.put, List.setIfInBounds_toArray, List.set_cons_zero, List.set_cons_succ]
    refine wpAnyH_ready (rs := [11]) (by kernel_rfl) (by simp) ?_
    refine AllReadyH.cons (o := { dst := some 46, op := Op.load 43 (Operand.tmp 45), type := 43, pos := "table.go:45", after := #[{ on := 10, ground := Ground.data }], guard := none }) rfl (fun K hK => ?_) AllReadyH.nil
    obtain ⟨⟨l0, l1, l2, l3, l4, l5, l6, l7, l8, l9⟩, lf, _⟩ := HAT.out _ NX.out.tab.own
    go_simp
    refine hK.out _ _ (⟨NX.out.tab.row, NX.out.box⟩) (fun hHeld => ?_)
    clear hK K
    try simp only [Act.put, List.setIfInBounds_toArray, List.set_cons_zero, List.set_cons_succ]
    clear l0 l1 l2 l3 l4 l5 l6 l7 l8 l9 lf
    refine wpAnyH_ready (rs := [13]) (by kernel_rfl) (by simp) ?_
    refine AllReadyH.cons (o := { dst := some 48, op := Op.call { callee := Callee.value (Operand.func 42), args := #[Operand.tmp 46, Operand.tmp 47], argTypes := #[43, 38] }, type := 43, pos := "table.go:45", after := #[{ on := 11, ground := Ground.data }, { on := 12, ground := Ground.data }], guard := none }) rfl (fun K hK => ?_) AllReadyH.nil
    go_simp
    with_reducible refine (HNR.out _).mono ?_
    rintro e w5 ⟨rfl, B5⟩
    replace NX := Lib.hid (NX.out.step B5)
    refine hK.out _ _ (⟨NX.out.tab.row, NX.out.box⟩) (fun hHeld => ?_)
    clear hK K
    try simp only [Act.put, List.setIfInBounds_toArray, List.set_cons_zero, List.set_cons_succ]
    clear B5
    refine wpAnyH_take (i := 14) (oi := { dst := some 49, op := Op.indexAddr 48 (Operand.tmp 38) (Operand.tmp 39), type := 0, pos := "table.go:45", after := #[{ on := 3, ground := Ground.data }, { on := 4, ground := Ground.data }, { on := 0, ground := Ground.phase }, { on := 1, ground := Ground.phase }, { on := 2, ground := Ground.phase }, { on := 3, ground := Ground.phase }, { on := 4, ground := Ground.phase }, { on := 5, ground := Ground.phase }, { on := 6, ground := Ground.phase }, { on := 7, ground := Ground.phase }, { on := 8, ground := Ground.phase }, { on := 9, ground := Ground.phase }, { on := 10, ground := Ground.phase }, { on := 11, ground := Ground.phase }, { on := 12, ground := Ground.phase }, { on := 13, ground := Ground.phase }], guard := none }) (v := .pointer (some ⟨g0, p * 10, none⟩)) rfl (by kernel_rfl) (by kernel_rfl) (by kernel_rfl) (fun _ _ _ h => h) (Or.inl ⟨by rfl, fun w hSw => by go_simp⟩) (by assumption) ?_
    try simp only [Act.put, List.setIfInBounds_toArray, List.set_cons_zero, List.set_cons_succ]
    refine wpAnyH_ready (rs := [15]) (by kernel_rfl) (by simp) ?_
    refine AllReadyH.cons (o := { dst := none, op := Op.store 43 (Operand.tmp 49) (Operand.tmp 48), type := 0, pos := "table.go:45", after := #[{ on := 14, ground := Ground.data }, { on := 13, ground := Ground.data }, { on := 13, ground := Ground.chain }, { on := 0, ground := Ground.phase }, { on := 1, ground := Ground.phase }, { on := 2, ground := Ground.phase }, { on := 3, ground := Ground.phase }, { on := 4, ground := Ground.phase }, { on := 5, ground := Ground.phase }, { on := 6, ground := Ground.phase }, { on := 7, ground := Ground.phase }, { on := 8, ground := Ground.phase }, { on := 9, ground := Ground.phase }, { on := 10, ground := Ground.phase }, { on := 11, ground := Ground.phase }, { on := 12, ground := Ground.phase }, { on := 13, ground := Ground.phase }], guard := none }) rfl (fun K hK => ?_) AllReadyH.nil
    obtain ⟨⟨l0, l1, l2, l3, l4, l5, l6, l7, l8, l9⟩, lf, _⟩ := HAT.out _ NX.out.tab.own
    go_simp
    have O6 := NX.out.tab.own.put HP.out r2 rfl
    have G6 := grown10 w5 g0 (p * 10) (.int .u32 (r2.addr : Int)) (.int .u8 (r2.len : Int)) (.bool r2.has) (.int .u32 (r2.addr : Int)) (.int .u8 (r2.len : Int)) (.int .i64 (r2.via : Int)) (.int .u16 (r2.metric : Int)) (.int .u16 (r2.seq : Int)) (.int .u16 (r2.ms : Int)) (.int .u16 (r2.mm : Int))
    clear l0 l1 l2 l3 l4 l5 l6 l7 l8 l9 lf
    generalize (((((((((w5.setCell _ _).setCell _ _).setCell _ _).setCell _ _).setCell _ _).setCell _ _).setCell _ _).setCell _ _).setCell _ _).setCell _ _ = wq at *
    have T6 := (G6.block q (by have := NX.out.tab.lt; exact this) (by intro e; injection e with e; exact hgq e.symm)).trans NX.out.tab.row
    have X6 := (G6.block w.heap.size (Array.getElem?_eq_some_iff.1 NX.out.box).1 (by intro e; injection e with e; omega)).trans NX.out.box
    have L6 := (NX.out.bl.mono hBw).trans (below_of_grown G6 (Nat.le_trans hBw NX.out.bl.size) (fun k e => by injection e with e; subst e; exact hBg))
    have HQ := Lib.hid (show Aq w wq B q (some g0) ⟨t.rows.set p r2, t.no, t.time⟩ (.slice (some ⟨g0, 0, none⟩) t.rows.length cp) #[.int .u64 (no : Int), .int .u64 (tm : Int), .bool true, .int .u32 (a : Int), .int .u8 (n : Int), .int .i64 (via : Int), .int .u16 (mt : Int), .int .u16 (sq : Int)] from ⟨⟨T6, O6, hgq', hBq⟩, X6, L6, fun k hk h1 h2 => (G6.block k (Nat.lt_of_lt_of_le hk NX.out.bl.size) (fun e => h2 e.symm)).trans (NX.out.bl.block k hk)⟩)
    clear O6 G6
    refine hK.out _ _ ⟨T6, X6⟩ (fun hHeld => ?_)
    clear hK K
    try simp only [Act.put, List.setIfInBounds_toArray, List.set_cons_zero, List.set_cons_succ]
    clear T6 X6 L6 hHeld NX
    refine wpAnyH_done (by kernel_rfl) ?_ _
    try unfold NoPanic
    go_upto_region 16 with (fail)
    have HQ := Lib.hid (show Aq w wq.drew B q _ _ _ _ from ⟨HQ.out.tab.kept (Below.refl _ _).drew, HQ.out.box, HQ.out.bl.drew, HQ.out.ot⟩)
    refine wp_region_noPanic ?_
    refine wp_region_held_drew (S := fun W : World => W.heap[w.heap.size]? = some (.cells #[.int .u64 (no : Int), .int .u64 (tm : Int), .bool true, .int .u32 (a : Int), .int .u8 (n : Int), .int .i64 (via : Int), .int .u16 (mt : Int), .int .u16 (sq : Int)] 38 (0, 0))) (by kernel_rfl) HQ.out.box (fun hHeld => ?_)
    generalize wq.drew = wd at *
    refine wpAnyH_take (i := 0) (oi := { dst := some 94, op := Op.move (Operand.tmp 0), type := 26, pos := "table.go:47", after := #[], guard := none }) (v := .pointer (some ⟨q, 0, none⟩)) rfl (by kernel_rfl) (by kernel_rfl) (by kernel_rfl) (fun _ _ _ h => h) (Or.inl ⟨by rfl, fun w hSw => by go_simp⟩) (by assumption) ?_
    try simp only [Act.put, List.setIfInBounds_toArray, List.set_cons_zero, List.set_cons_succ]
    refine wpAnyH_take (i := 1) (oi := { dst := some 95, op := Op.move (Operand.tmp 0), type := 26, pos := "table.go:47", after := #[{ on := 8, ground := Ground.gcOnly Departure.lateStores }], guard := none }) (v := .pointer (some ⟨q, 0, none⟩)) rfl (by kernel_rfl) (by kernel_rfl) (by kernel_rfl) (fun _ _ _ h => h) (Or.inl ⟨by rfl, fun w hSw => by go_simp⟩) (by assumption) ?_
    try simp only [Act.put, List.setIfInBounds_toArray, List.set_cons_zero, List.set_cons_succ]
    refine wpAnyH_take (i := 2) (oi := { dst := some 96, op := Op.fieldAddr 38 (Operand.tmp 3) 0, type := 0, pos := "table.go:47", after := #[], guard := none }) (v := .pointer (some ⟨w.heap.size, 0, none⟩)) rfl (by kernel_rfl) (by kernel_rfl) (by kernel_rfl) (fun _ _ _ h => h) (Or.inl ⟨by rfl, fun w hSw => by go_simp⟩) (by assumption) ?_
    try simp only [Act.put, List.setIfInBounds_toArray, List.set_cons_zero, List.set_cons_succ]
    refine wpAnyH_take (i := 3) (oi := { dst := some 97, op := Op.load 28 (Operand.tmp 96), type := 28, pos := "table.go:47", after := #[{ on := 2, ground := Ground.data }], guard := none }) (v := .int .u64 (no : Int)) rfl (by kernel_rfl) (by kernel_rfl) (by kernel_rfl) (fun _ _ _ h => h) (Or.inl ⟨by rfl, fun w hSw => by obtain ⟨k0, k1, k2, k3, k4, k5, k6, k7⟩ := row8' hSw; go_simp⟩) (by assumption) ?_
    try simp only [Act.put, List.setIfInBounds_toArray, List.set_cons_zero, List.set_cons_succ]
    refine wpAnyH_take (i := 4) (oi := { dst := some 98, op := Op.fieldAddr 38 (Operand.tmp 3) 1, type := 0, pos := "table.go:47", after := #[{ on := 8, ground := Ground.gcOnly Departure.lateStores }], guard := none }) (v := .pointer (some ⟨w.heap.size, 1, none⟩)) rfl (by kernel_rfl) (by kernel_rfl) (by kernel_rfl) (fun _ _ _ h => h) (Or.inl ⟨by rfl, fun w hSw => by go_simp⟩) (by assumption) ?_
    try simp only [Act.put, List.setIfInBounds_toArray, List.set_cons_zero, List.set_cons_succ]
    refine wpAnyH_take (i := 5) (oi := { dst := some 99, op := Op.load 28 (Operand.tmp 98), type := 28, pos := "table.go:47", after := #[{ on := 4, ground := Ground.data }, { on := 8, ground := Ground.gcOnly Departure.lateStores }], guard := none }) (v := .int .u64 (tm : Int)) rfl (by kernel_rfl) (by kernel_rfl) (by kernel_rfl) (fun _ _ _ h => h) (Or.inl ⟨by rfl, fun w hSw => by obtain ⟨k0, k1, k2, k3, k4, k5, k6, k7⟩ := row8' hSw; go_simp⟩) (by assumption) ?_
    try simp only [Act.put, List.setIfInBounds_toArray, List.set_cons_zero, List.set_cons_succ]
    refine wpAnyH_take (i := 6) (oi := { dst := some 100, op := Op.nilCheck (Operand.tmp 94), type := 0, pos := "table.go:47", after := #[{ on := 0, ground := Ground.data }, { on := 0, ground := Ground.phase }, { on := 1, ground := Ground.textOnly Departure.lateStores }, { on := 2, ground := Ground.phase }, { on := 3, ground := Ground.phase }, { on := 4, ground := Ground.textOnly Departure.lateStores }, { on := 5, ground := Ground.textOnly Departure.lateStores }], guard := none }) (v := .pointer (some ⟨q, 0, none⟩)) rfl (by kernel_rfl) (by kernel_rfl) (by kernel_rfl) (fun _ _ _ h => h) (Or.inl ⟨by rfl, fun w hSw => by go_simp⟩) (by assumption) ?_
    try simp only [Act.put, List.setIfInBounds_toArray, List.set_cons_zero, List.set_cons_succ]
    refine wpAnyH_take (i := 7) (oi := { dst := some 101, op := Op.fieldAddr 70 (Operand.tmp 100) 1, type := 0, pos := "table.go:47", after := #[{ on := 6, ground := Ground.data }, { on := 0, ground := Ground.phase }, { on := 1, ground := Ground.textOnly Departure.lateStores }, { on := 2, ground := Ground.phase }, { on := 3, ground := Ground.phase }, { on := 4, ground := Ground.textOnly Departure.lateStores }, { on := 5, ground := Ground.textOnly Departure.lateStores }], guard := none }) (v := .pointer (some ⟨q, 1, none⟩)) rfl (by kernel_rfl) (by kernel_rfl) (by kernel_rfl) (fun _ _ _ h => h) (Or.inl ⟨by rfl, fun w hSw => by go_simp⟩) (by assumption) ?_
    try simp only [Act.put, List.setIfInBounds_toArray, List.set_cons_zero, List.set_cons_succ]
    refine wpAnyH_ready (rs := [8]) (by kernel_rfl) (by simp) ?_
    refine AllReadyH.cons (o := { dst := none, op := Op.store 28 (Operand.tmp 101) (Operand.tmp 97), type := 0, pos := "table.go:47", after := #[{ on := 7, ground := Ground.data }, { on := 3, ground := Ground.data }, { on := 0, ground := Ground.phase }, { on := 1, ground := Ground.textOnly Departure.lateStores }, { on := 2, ground := Ground.phase }, { on := 3, ground := Ground.phase }, { on := 4, ground := Ground.textOnly Departure.lateStores }, { on := 5, ground := Ground.textOnly Departure.lateStores }], guard := none }) rfl (fun K hK => ?_) AllReadyH.nil
    obtain ⟨l0, l1, l2⟩ := row3 HQ.out.tab.row
    have lf := fun i => frozen_of_row _ q i _ 70 HQ.out.tab.row
    go_simp
    have N1 := (heap_setCell_same _ q 1 _ 70 (.int .u64 (no : Int)) HQ.out.tab.row)
    have O1 := HQ.out.tab.own.keptBut (grown_setCell wd q 1 (.int .u64 (no : Int))) HQ.out.tab.ne
    have X1 := (Below.heap_setCell wd ⟨q, 1, none⟩ (.int .u64 (no : Int)) w.heap.size (by show w.heap.size ≠ q; omega)).trans HQ.out.box
    have L1 := HQ.out.bl.setCell (p := ⟨q, 1, none⟩) hBq (.int .u64 (no : Int))
    have HV := Lib.hid HQ.out.tab.ne
    have K1 : Hid (∀ k, k < w.heap.size → k ≠ q → _ → (wd.setCell ⟨q, 1, none⟩ (.int .u64 (no : Int))).heap[k]? = w.heap[k]?) := fun k hk h1 h2 => (Below.heap_setCell wd ⟨q, 1, none⟩ (.int .u64 (no : Int)) k h1).trans (HQ.out.ot k hk h1 h2)
    have N1 := (show (wd.setCell ⟨q, 1, none⟩ (.int .u64 (no : Int))).heap[q]? = some (.cells #[.slice (some ⟨g0, 0, none⟩) t.rows.length cp, .int .u64 (no : Int), .int .u64 (t.time : Int)] 70 (0, 0)) from N1)
    clear l0 l1 l2 lf
    generalize wd.setCell _ _ = wm at *
    refine hK.out _ _ X1 (fun hHeld => ?_)
    clear hK K
    try simp only [Act.put, List.setIfInBounds_toArray, List.set_cons_zero, List.set_cons_succ]
    have HN := Lib.hid (And.intro N1 (And.intro O1 (And.intro X1 L1)))
    clear N1 O1 X1 L1
    refine wpAnyH_take (i := 9) (oi := { dst := some 102, op := Op.nilCheck (Operand.tmp 95), type := 0, pos := "table.go:47", after := #[{ on := 1, ground := Ground.data }, { on := 0, ground := Ground.phase }, { on := 1, ground := Ground.phase }, { on := 2, ground := Ground.phase }, { on := 3, ground := Ground.phase }, { on := 4, ground := Ground.phase }, { on := 5, ground := Ground.phase }, { on := 6, ground := Ground.phase }, { on := 7, ground := Ground.phase }, { on := 8, ground := Ground.phase }], guard := none }) (v := .pointer (some ⟨q, 0, none⟩)) rfl (by kernel_rfl) (by kernel_rfl) (by kernel_rfl) (fun _ _ _ h => h) (Or.inl ⟨by rfl, fun w hSw => by go_simp⟩) (by assumption) ?_
    try simp only [Act.put, List.setIfInBounds_toArray, List.set_cons_zero, List.set_cons_succ]
    refine wpAnyH_take (i := 10) (oi := { dst := some 103, op := Op.fieldAddr 70 (Operand.tmp 102) 2, type := 0, pos := "table.go:47", after := #[{ on := 9, ground := Ground.data }, { on := 0, ground := Ground.phase }, { on := 1, ground := Ground.phase }, { on := 2, ground := Ground.phase }, { on := 3, ground := Ground.phase }, { on := 4, ground := Ground.phase }, { on := 5, ground := Ground.phase }, { on := 6, ground := Ground.phase }, { on := 7, ground := Ground.phase }, { on := 8, ground := Ground.phase }], guard := none }) (v := .pointer (some ⟨q, 2, none⟩)) rfl (by kernel_rfl) (by kernel_rfl) (by kernel_rfl) (fun _ _ _ h => h) (Or.inl ⟨by rfl, fun w hSw => by go_simp⟩) (by assumption) ?_
    try simp only [Act.put, List.setIfInBounds_toArray, List.set_cons_zero, List.set_cons_succ]
    refine wpAnyH_ready (rs := [11]) (by kernel_rfl) (by simp) ?_
    refine AllReadyH.cons (o := { dst := none, op := Op.store 28 (Operand.tmp 103) (Operand.tmp 99), type := 0, pos := "table.go:47", after := #[{ on := 10, ground := Ground.data }, { on := 5, ground := Ground.data }, { on := 8, ground := Ground.chain }, { on := 0, ground := Ground.phase }, { on := 1, ground := Ground.phase }, { on := 2, ground := Ground.phase }, { on := 3, ground := Ground.phase }, { on := 4, ground := Ground.phase }, { on := 5, ground := Ground.phase }, { on := 6, ground := Ground.phase }, { on := 7, ground := Ground.phase }, { on := 8, ground := Ground.phase }], guard := none }) rfl (fun K hK => ?_) AllReadyH.nil
    obtain ⟨l0, l1, l2⟩ := row3 HN.out.1
    have lf := fun i => frozen_of_row _ q i _ 70 HN.out.1
    go_simp
    have N2 := (show (wm.setCell ⟨q, 2, none⟩ (.int .u64 (tm : Int))).heap[q]? = some (.cells #[.slice (some ⟨g0, 0, none⟩) t.rows.length cp, .int .u64 (no : Int), .int .u64 (tm : Int)] 70 (0, 0)) from heap_setCell_same _ q 2 _ 70 (.int .u64 (tm : Int)) HN.out.1)
    have O2 := HN.out.2.1.keptBut (grown_setCell wm q 2 (.int .u64 (tm : Int))) HV.out
    have X2 := (Below.heap_setCell wm ⟨q, 2, none⟩ (.int .u64 (tm : Int)) w.heap.size (by show w.heap.size ≠ q; omega)).trans HN.out.2.2.1
    have K2 : Hid (∀ k, k < w.heap.size → k ≠ q → _ → (wm.setCell ⟨q, 2, none⟩ (.int .u64 (tm : Int))).heap[k]? = w.heap[k]?) := fun k hk h1 h2 => (Below.heap_setCell wm ⟨q, 2, none⟩ (.int .u64 (tm : Int)) k h1).trans (K1.out k hk h1 h2)
    have L2 := HN.out.2.2.2.setCell (p := ⟨q, 2, none⟩) hBq (.int .u64 (tm : Int))
    clear l0 l1 l2 lf
    generalize wm.setCell _ _ = wn at *
    refine hK.out _ _ X2 (fun hHeld => ?_)
    clear hK K
    try simp only [Act.put, List.setIfInBounds_toArray, List.set_cons_zero, List.set_cons_succ]
    refine wpAnyH_done (by kernel_rfl) ?_ _
    try unfold NoPanic
    go_wp2
    go_ret
    exact ⟨_, rfl, ⟨show wn.heap[q]? = some (.cells #[_, .int .u64 (no : Int), .int .u64 (tm : Int)] 70 (0, 0)) from N2, by show ROwn _ _ _ (upd _ t.rows); rw [HU.out.2]; exact O2, HV.out, hBq⟩, L2, K2.out⟩
theorem ins_any (w : World) (B : Nat) (v : Value) (rs : List R) (r : R) (i vb : Nat) (hown : ROwn w B v rs) (hvb : w.heap[vb]? = some (.cells r.cl.toArray 43 (0, 0))) (hne : v.ownBlock ≠ some vb) (hi : i ≤ rs.length) (hlen : rs.length ≤ 1000) (hB : B ≤ w.heap.size) :
    Calls Try.prog 40 #[v, .int .i64 (i : Int), .slice (some ⟨vb, 0, none⟩) 1 1] w (InsSaid w B v (rs.take i ++ r :: rs.drop i)) := by
  rcases Nat.lt_or_eq_of_le hi with h | h
  · rcases hown.2 with ⟨_, h0⟩ | ⟨g, cap, cur, rfl, hBg, hg, h1, h2, h3, h4⟩
    · have : rs.length = 0 := h0; omega
    · have hg' : w.heap[g]? = some (.cells cur.toList.toArray 43 (0, 0)) := hg
      by_cases hroom : rs.length + 1 ≤ cap
      · exact ins_room w B g cap i cur.toList rs r vb hg' hBg h2 (by simpa using h3) h4 hvb (fun e => hne (by rw [e]; rfl)) h hlen hroom
      · exact ins_grow w B g cap i cur.toList rs r vb hg' hB h4 hvb h hlen h1 (by omega)
  · subst h
    rw [List.take_length, List.drop_length]
    exact ins_end w B v rs r vb hown hvb hlen hB
set_option maxHeartbeats 8000000 in
theorem apply_new (w : World) (B q : Nat) (t : T) (v : Value) (no tm a n via mt sq : Nat) (g : Bool) (h : TabAt w B q t v) (ht : t.Ok) (hc : C.Ok ⟨no, tm, g, a, n, via, mt, sq⟩) (hno : no = t.no + 1) (htime : t.time ≤ tm) (hlen : t.rows.length ≤ 250) (hth : thereB (key a n) t.rows = false) (hg0 : g = false) :
    Calls Try.prog 22 #[.pointer (some ⟨q, 0, none⟩), .agg #[.int .u64 (no : Int), .int .u64 (tm : Int), .bool g, .int .u32 (a : Int), .int .u8 (n : Int), .int .i64 (via : Int), .int .u16 (mt : Int), .int .u16 (sq : Int)]] w (PutSaid w B q v.ownBlock (t.put ⟨no, tm, g, a, n, via, mt, sq⟩)) := by
  cases g
  case true => cases hg0
  clear hg0
  have HC := Lib.hid (And.intro hc (And.intro ht (And.intro hno (And.intro htime hlen))))
  have hn32 : n ≤ 32 := hc.2.2.2.1
  have HF : Hid (∀ W, Calls Try.prog 39 #[.agg #[.int .u64 (t.no : Int), .int .u64 (t.time : Int), .bool false, .int .u32 0, .int .u8 0, .int .i64 0, .int .u16 0, .int .u16 0], .agg #[.int .u64 (no : Int), .int .u64 (tm : Int), .bool false, .int .u32 (a : Int), .int .u8 (n : Int), .int .i64 (via : Int), .int .u16 (mt : Int), .int .u16 (sq : Int)]] W fun e w' => e = .returned (.bool true) ∧ Below W.heap.size W w') :=
    fun W => follows_any t.no t.time 0 0 0 0 0 no tm a n via mt sq false false hno htime (by have := hc.1; exact this) W
  have HR : Hid (∀ W, Calls Try.prog 38 #[.agg #[.int .u64 (no : Int), .int .u64 (tm : Int), .bool false, .int .u32 (a : Int), .int .u8 (n : Int), .int .i64 (via : Int), .int .u16 (mt : Int), .int .u16 (sq : Int)]] W fun e w' => e = .returned (.int .i64 0) ∧ Below W.heap.size W w') := fun W => right_cany ⟨no, tm, false, a, n, via, mt, sq⟩ hc W
  have A1 : Ap w (w.alloc (.cells #[.int .u64 (no : Int), .int .u64 (tm : Int), .bool false, .int .u32 (a : Int), .int .u8 (n : Int), .int .i64 (via : Int), .int .u16 (mt : Int), .int .u16 (sq : Int)] 38)) B q t v #[.int .u64 (no : Int), .int .u64 (tm : Int), .bool false, .int .u32 (a : Int), .int .u8 (n : Int), .int .i64 (via : Int), .int .u16 (mt : Int), .int .u16 (sq : Int)] := ⟨h.kept ((Below.refl _ _).alloc (Nat.le_refl _) _), heap_alloc_new w _, (Below.refl _ _).alloc (Nat.le_refl _) _⟩
  have hqw := h.lt
  have hBq := h.le
  have Hv := Lib.hid h
  obtain ⟨A, cp, hv, -, -⟩ := h.own.form
  have hvl := h.own.lt
  obtain ⟨p, hpp⟩ : ∃ p, p = pos (key a n) t.rows := ⟨_, rfl⟩
  have hupd := upd_new (c := ⟨no, tm, false, a, n, via, mt, sq⟩) (rs := t.rows) (there_no hth)
  have hpl := pos_le (key a n) t.rows
  have hth' := hth
  simp only [key_mk, ← hpp] at hpl hupd
  have HU := Lib.hid (And.intro hpp hupd)
  have HV0 := Lib.hid (And.intro hvl h.ne)
  have hBw : B ≤ w.heap.size := by omega
  subst hv
  clear hth hupd hpp hvl
  clear hc ht hno htime h hlen
  go_enter Try.func22, Try.ntmps22
  go_upto_region 3 with (fail)
  generalize w.alloc _ = w1 at *
  obtain ⟨k0, k1, k2, k3, k4, k5, k6, k7⟩ := row8' A1.box
  have HA1 := Lib.hid A1
  clear A1
  go_upto_region 6 with ((go_at_call 38; (with_reducible refine (HR.out _).mono ?_); rintro e w2 ⟨rfl, B2⟩; have HA2 := Lib.hid (HA1.out.step B2); clear B2 HA1 k0 k1 k2 k3 k4 k5 k6 k7))
  have A2 := HA2.out
  clear HA2
  refine wp_region_noPanic ?_
  refine wp_region_held_drew (S := fun W : World => Ap w W B q t (.slice A t.rows.length cp) #[.int .u64 (no : Int), .int .u64 (tm : Int), .bool false, .int .u32 (a : Int), .int .u8 (n : Int), .int .i64 (via : Int), .int .u16 (mt : Int), .int .u16 (sq : Int)]) (by kernel_rfl) (A2.step (Below.refl _ _).drew) (fun hHeld => ?_)
  generalize w2.drew = wd at *
  refine wpAnyH_take (i := 0) (oi := { dst := some 15, op := Op.move (Operand.tmp 0), type := 26, pos := "table.go:33", after := #[], guard := none }) (v := .pointer (some ⟨q, 0, none⟩)) rfl (by kernel_rfl) (by kernel_rfl) (by kernel_rfl) (fun _ _ _ h => h) (Or.inl ⟨by rfl, fun w hSw => by go_simp⟩) (by assumption) ?_
  try simp only [Act.put, List.setIfInBounds_toArray, List.set_cons_zero, List.set_cons_succ]
  refine wpAnyH_take (i := 1) (oi := { dst := some 16, op := Op.nilCheck (Operand.tmp 15), type := 0, pos := "table.go:33", after := #[{ on := 0, ground := Ground.data }], guard := none }) (v := .pointer (some ⟨q, 0, none⟩)) rfl (by kernel_rfl) (by kernel_rfl) (by kernel_rfl) (fun _ _ _ h => h) (Or.inl ⟨by rfl, fun w hSw => by go_simp⟩) (by assumption) ?_
  try simp only [Act.put, List.setIfInBounds_toArray, List.set_cons_zero, List.set_cons_succ]
  refine wpAnyH_take (i := 2) (oi := { dst := some 17, op := Op.fieldAddr 70 (Operand.tmp 16) 1, type := 0, pos := "table.go:33", after := #[{ on := 1, ground := Ground.data }], guard := none }) (v := .pointer (some ⟨q, 1, none⟩)) rfl (by kernel_rfl) (by kernel_rfl) (by kernel_rfl) (fun _ _ _ h => h) (Or.inl ⟨by rfl, fun w hSw => by go_simp⟩) (by assumption) ?_
  try simp only [Act.put, List.setIfInBounds_toArray, List.set_cons_zero, List.set_cons_succ]
  refine wpAnyH_take (i := 3) (oi := { dst := some 18, op := Op.load 28 (Operand.tmp 17), type := 28, pos := "table.go:33", after := #[{ on := 2, ground := Ground.data }], guard := none }) (v := .int .u64 (t.no : Int)) rfl (by kernel_rfl) (by kernel_rfl) (by kernel_rfl) (fun _ _ _ h => h) (Or.inl ⟨by rfl, fun w hSw => by obtain ⟨k0, k1, k2⟩ := row3 hSw.tab.row; go_simp⟩) (by assumption) ?_
  try simp only [Act.put, List.setIfInBounds_toArray, List.set_cons_zero, List.set_cons_succ]
  refine wpAnyH_take (i := 4) (oi := { dst := some 19, op := Op.move (Operand.tmp 0), type := 26, pos := "table.go:33", after := #[], guard := none }) (v := .pointer (some ⟨q, 0, none⟩)) rfl (by kernel_rfl) (by kernel_rfl) (by kernel_rfl) (fun _ _ _ h => h) (Or.inl ⟨by rfl, fun w hSw => by go_simp⟩) (by assumption) ?_
  try simp only [Act.put, List.setIfInBounds_toArray, List.set_cons_zero, List.set_cons_succ]
  refine wpAnyH_take (i := 5) (oi := { dst := some 20, op := Op.nilCheck (Operand.tmp 19), type := 0, pos := "table.go:33", after := #[{ on := 4, ground := Ground.data }], guard := none }) (v := .pointer (some ⟨q, 0, none⟩)) rfl (by kernel_rfl) (by kernel_rfl) (by kernel_rfl) (fun _ _ _ h => h) (Or.inl ⟨by rfl, fun w hSw => by go_simp⟩) (by assumption) ?_
  try simp only [Act.put, List.setIfInBounds_toArray, List.set_cons_zero, List.set_cons_succ]
  refine wpAnyH_take (i := 6) (oi := { dst := some 21, op := Op.fieldAddr 70 (Operand.tmp 20) 2, type := 0, pos := "table.go:33", after := #[{ on := 5, ground := Ground.data }], guard := none }) (v := .pointer (some ⟨q, 2, none⟩)) rfl (by kernel_rfl) (by kernel_rfl) (by kernel_rfl) (fun _ _ _ h => h) (Or.inl ⟨by rfl, fun w hSw => by go_simp⟩) (by assumption) ?_
  try simp only [Act.put, List.setIfInBounds_toArray, List.set_cons_zero, List.set_cons_succ]
  refine wpAnyH_take (i := 7) (oi := { dst := some 22, op := Op.load 28 (Operand.tmp 21), type := 28, pos := "table.go:33", after := #[{ on := 6, ground := Ground.data }], guard := none }) (v := .int .u64 (t.time : Int)) rfl (by kernel_rfl) (by kernel_rfl) (by kernel_rfl) (fun _ _ _ h => h) (Or.inl ⟨by rfl, fun w hSw => by obtain ⟨k0, k1, k2⟩ := row3 hSw.tab.row; go_simp⟩) (by assumption) ?_
  try simp only [Act.put, List.setIfInBounds_toArray, List.set_cons_zero, List.set_cons_succ]
  refine wpAnyH_take (i := 8) (oi := { dst := some 23, op := Op.build 38 #[(0, Operand.tmp 18), (1, Operand.tmp 22)], type := 38, pos := "table.go:33", after := #[{ on := 3, ground := Ground.data }, { on := 7, ground := Ground.data }], guard := none }) (v := .agg #[.int .u64 (t.no : Int), .int .u64 (t.time : Int), .bool false, .int .u32 0, .int .u8 0, .int .i64 0, .int .u16 0, .int .u16 0]) rfl (by kernel_rfl) (by kernel_rfl) (by kernel_rfl) (fun _ _ _ h => h) (Or.inl ⟨by rfl, fun w hSw => by go_simp⟩) (by assumption) ?_
  try simp only [Act.put, List.setIfInBounds_toArray, List.set_cons_zero, List.set_cons_succ]
  refine wpAnyH_take (i := 9) (oi := { dst := some 24, op := Op.load 38 (Operand.tmp 3), type := 38, pos := "table.go:33", after := #[], guard := none }) (v := .agg #[.int .u64 (no : Int), .int .u64 (tm : Int), .bool false, .int .u32 (a : Int), .int .u8 (n : Int), .int .i64 (via : Int), .int .u16 (mt : Int), .int .u16 (sq : Int)]) rfl (by kernel_rfl) (by kernel_rfl) (by kernel_rfl) (fun _ _ _ h => h) (Or.inl ⟨by rfl, fun w hSw => by obtain ⟨k0, k1, k2, k3, k4, k5, k6, k7⟩ := row8' hSw.box; go_simp⟩) (by assumption) ?_
  try simp only [Act.put, List.setIfInBounds_toArray, List.set_cons_zero, List.set_cons_succ]
  refine wpAnyH_ready (rs := [10]) (by kernel_rfl) (by simp) ?_
  refine AllReadyH.cons (o := { dst := some 25, op := Op.call { callee := Callee.value (Operand.func 39), args := #[Operand.tmp 23, Operand.tmp 24], argTypes := #[38, 38] }, type := 4, pos := "table.go:33", after := #[{ on := 8, ground := Ground.data }, { on := 9, ground := Ground.data }], guard := none }) rfl (fun K hK => ?_) AllReadyH.nil
  go_simp
  with_reducible refine (HF.out _).mono ?_
  rintro e w3 ⟨rfl, B3⟩
  have h3 := hHeld.step B3
  refine hK.out _ _ (h3) (fun hHeld => ?_)
  clear hK K
  try simp only [Act.put, List.setIfInBounds_toArray, List.set_cons_zero, List.set_cons_succ]
  refine wpAnyH_take (i := 11) (oi := { dst := some 26, op := Op.unOp UnOp.not 4 (Operand.tmp 25), type := 4, pos := "table.go:33", after := #[{ on := 10, ground := Ground.data }], guard := none }) (v := .bool false) rfl (by kernel_rfl) (by kernel_rfl) (by kernel_rfl) (fun _ _ _ h => h) (Or.inl ⟨by rfl, fun w hSw => by go_simp⟩) (by assumption) ?_
  try simp only [Act.put, List.setIfInBounds_toArray, List.set_cons_zero, List.set_cons_succ]
  refine wpAnyH_done (by kernel_rfl) ?_ _
  try unfold NoPanic
  obtain ⟨k0, k1, k2, k3, k4, k5, k6, k7⟩ := row8' hHeld.box
  have HA3 := Lib.hid hHeld
  clear hHeld A2
  go_upto_region 10 with ((go_at_call 25; (with_reducible refine (find_any _ B q t (.slice A t.rows.length cp) HA3.out.tab HC.out.2.1 (by have := HC.out.2.2.2.2; omega) a n hn32).mono ?_); rw [← HU.out.1, hth']; rintro e w4 ⟨rfl, B4⟩; have HA4 := Lib.hid (HA3.out.step B4); clear B4 HA3 k0 k1 k2 k3 k4 k5 k6 k7))
  obtain ⟨k0, k1, k2, k3, k4, k5, k6, k7⟩ := row8' HA4.out.box
  obtain ⟨t0, t1, t2⟩ := row3 HA4.out.tab.row
  have hlen : ¬ (256 : Int) ≤ (t.rows.length : Int) := by have := HC.out.2.2.2.2; omega
  go_upto_region 15 with (fail)
  clear k0 k1 k2 k3 k4 k5 k6 k7 t0 t1 t2 hlen
  have NX := Lib.hid (HA4.out.step (Below.refl _ _).drew)
  clear HA4
  refine wp_region_noPanic ?_
  refine wp_region_held_drew (S := fun W : World => W.heap[w.heap.size]? = some (.cells #[.int .u64 (no : Int), .int .u64 (tm : Int), .bool false, .int .u32 (a : Int), .int .u8 (n : Int), .int .i64 (via : Int), .int .u16 (mt : Int), .int .u16 (sq : Int)] 38 (0, 0))) (by kernel_rfl) NX.out.box (fun hHeld => ?_)
  generalize w4.drew = wd at *
  refine wpAnyH_take (i := 0) (oi := { dst := some 81, op := Op.move (Operand.tmp 0), type := 26, pos := "table.go:43", after := #[], guard := none }) (v := .pointer (some ⟨q, 0, none⟩)) rfl (by kernel_rfl) (by kernel_rfl) (by kernel_rfl) (fun _ _ _ h => h) (Or.inl ⟨by rfl, fun w hSw => by go_simp⟩) (by assumption) ?_
  try simp only [Act.put, List.setIfInBounds_toArray, List.set_cons_zero, List.set_cons_succ]
  refine wpAnyH_take (i := 1) (oi := { dst := some 82, op := Op.move (Operand.tmp 0), type := 26, pos := "table.go:43", after := #[], guard := none }) (v := .pointer (some ⟨q, 0, none⟩)) rfl (by kernel_rfl) (by kernel_rfl) (by kernel_rfl) (fun _ _ _ h => h) (Or.inl ⟨by rfl, fun w hSw => by go_simp⟩) (by assumption) ?_
  try simp only [Act.put, List.setIfInBounds_toArray, List.set_cons_zero, List.set_cons_succ]
  refine wpAnyH_take (i := 2) (oi := { dst := some 83, op := Op.nilCheck (Operand.tmp 82), type := 0, pos := "table.go:43", after := #[{ on := 1, ground := Ground.data }], guard := none }) (v := .pointer (some ⟨q, 0, none⟩)) rfl (by kernel_rfl) (by kernel_rfl) (by kernel_rfl) (fun _ _ _ h => h) (Or.inl ⟨by rfl, fun w hSw => by go_simp⟩) (by assumption) ?_
  try simp only [Act.put, List.setIfInBounds_toArray, List.set_cons_zero, List.set_cons_succ]
  refine wpAnyH_take (i := 3) (oi := { dst := some 84, op := Op.fieldAddr 70 (Operand.tmp 83) 0, type := 0, pos := "table.go:43", after := #[{ on := 2, ground := Ground.data }], guard := none }) (v := .pointer (some ⟨q, 0, none⟩)) rfl (by kernel_rfl) (by kernel_rfl) (by kernel_rfl) (fun _ _ _ h => h) (Or.inl ⟨by rfl, fun w hSw => by go_simp⟩) (by assumption) ?_
  try simp only [Act.put, List.setIfInBounds_toArray, List.set_cons_zero, List.set_cons_succ]
  refine wpAnyH_take (i := 5) (oi := { dst := some 86, op := Op.move (Operand.tmp 6), type := 3, pos := "table.go:43", after := #[], guard := none }) (v := .int .i64 (p : Int)) rfl (by kernel_rfl) (by kernel_rfl) (by kernel_rfl) (fun _ _ _ h => h) (Or.inl ⟨by rfl, fun w hSw => by go_simp⟩) (by assumption) ?_
  try simp only [Act.put, List.setIfInBounds_toArray, List.set_cons_zero, List.set_cons_succ]
  refine wpAnyH_take (i := 6) (oi := { dst := some 87, op := Op.fieldAddr 38 (Operand.tmp 3) 3, type := 0, pos := "table.go:43", after := #[], guard := none }) (v := .pointer (some ⟨w.heap.size, 3, none⟩)) rfl (by kernel_rfl) (by kernel_rfl) (by kernel_rfl) (fun _ _ _ h => h) (Or.inl ⟨by rfl, fun w hSw => by go_simp⟩) (by assumption) ?_
  try simp only [Act.put, List.setIfInBounds_toArray, List.set_cons_zero, List.set_cons_succ]
  refine wpAnyH_take (i := 7) (oi := { dst := some 88, op := Op.load 36 (Operand.tmp 87), type := 36, pos := "table.go:43", after := #[{ on := 6, ground := Ground.data }], guard := none }) (v := .agg #[.int .u32 (a : Int), .int .u8 (n : Int), .int .i64 (via : Int), .int .u16 (mt : Int), .int .u16 (sq : Int)]) rfl (by kernel_rfl) (by kernel_rfl) (by kernel_rfl) (fun _ _ _ h => h) (Or.inl ⟨by rfl, fun w hSw => by obtain ⟨k0, k1, k2, k3, k4, k5, k6, k7⟩ := row8' hSw; go_simp⟩) (by assumption) ?_
  try simp only [Act.put, List.setIfInBounds_toArray, List.set_cons_zero, List.set_cons_succ]
  refine wpAnyH_ready (rs := [4, 8]) (by kernel_rfl) (by simp) ?_
  refine (AllReadyH.cons (o := { dst := some 85, op := Op.load 48 (Operand.tmp 84), type := 48, pos := "table.go:43", after := #[{ on := 3, ground := Ground.data }], guard := none }) rfl (fun K hK => ?_) (AllReadyH.cons (o := { dst := some 89, op := Op.call { callee := Callee.value (Operand.func 41), args := #[Operand.tmp 88], argTypes := #[36] }, type := 43, pos := "table.go:43", after := #[{ on := 7, ground := Ground.data }], guard := none }) rfl (fun K hK => ?_) AllReadyH.nil))
  · obtain ⟨l0, l1, l2⟩ := row3 NX.out.tab.row
    go_simp
    refine hK.out _ _ (NX.out.box) (fun hHeld => ?_)
    clear hK K
    try simp only [Act.put, List.setIfInBounds_toArray, List.set_cons_zero, List.set_cons_succ]
    clear l0 l1 l2
    refine wpAnyH_ready (rs := [8]) (by kernel_rfl) (by simp) ?_
    refine AllReadyH.cons (o := { dst := some 89, op := Op.call { callee := Callee.value (Operand.func 41), args := #[Operand.tmp 88], argTypes := #[36] }, type := 43, pos := "table.go:43", after := #[{ on := 7, ground := Ground.data }], guard := none }) rfl (fun K hK => ?_) AllReadyH.nil
    go_simp
    with_reducible refine (first_any a n (via : Int) (mt : Int) (sq : Int) _).mono ?_
    rintro e w5 ⟨rfl, B5⟩
    replace NX := Lib.hid (NX.out.step B5)
    refine hK.out _ _ (NX.out.box) (fun hHeld => ?_)
    clear hK K
    try simp only [Act.put, List.setIfInBounds_toArray, List.set_cons_zero, List.set_cons_succ]
    clear B5
    have HW5 := Lib.hid NX.out.bl.size
    refine wpAnyH_ready (rs := [9]) (by kernel_rfl) (by simp) ?_
    refine AllReadyH.cons (o := { dst := some 90, op := Op.buildSlice 48 1 #[(0, Operand.tmp 89)], type := 48, pos := "table.go:43", after := #[{ on := 8, ground := Ground.data }], guard := none }) rfl (fun K hK => ?_) AllReadyH.nil
    go_simp
    have HB := heap_alloc_new w5 (.cells #[.int .u32 (a : Int), .int .u8 (n : Int), .bool true, .int .u32 (a : Int), .int .u8 (n : Int), .int .i64 (via : Int), .int .u16 (mt : Int), .int .u16 (sq : Int), .int .u16 (sq : Int), .int .u16 (mt : Int)] 43)
    replace NX := Lib.hid (NX.out.step ((Below.refl w5.heap.size w5).alloc (Nat.le_refl _) (.cells #[.int .u32 (a : Int), .int .u8 (n : Int), .bool true, .int .u32 (a : Int), .int .u8 (n : Int), .int .i64 (via : Int), .int .u16 (mt : Int), .int .u16 (sq : Int), .int .u16 (sq : Int), .int .u16 (mt : Int)] 43)))
    obtain ⟨vb, hvb⟩ : ∃ vb, vb = w5.heap.size := ⟨_, rfl⟩
    have hvq : w.heap.size ≤ vb := by rw [hvb]; exact HW5.out
    rw [← hvb] at HB ⊢
    have HVB := Lib.hid (show (w5.alloc _).heap[vb]? = some (.cells (R.first ⟨no, tm, false, a, n, via, mt, sq⟩).cl.toArray 43 (0, 0)) from HB)
    clear HB hvb
    generalize w5.alloc _ = w6 at *
    refine hK.out _ _ (NX.out.box) (fun hHeld => ?_)
    clear hK K
    try simp only [Act.put, List.setIfInBounds_toArray, List.set_cons_zero, List.set_cons_succ]
    refine wpAnyH_ready (rs := [10]) (by kernel_rfl) (by simp) ?_
    refine AllReadyH.cons (o := { dst := some 91, op := Op.call { callee := Callee.value (Operand.func 40), args := #[Operand.tmp 85, Operand.tmp 86, Operand.tmp 90], argTypes := #[48, 3, 48] }, type := 48, pos := "table.go:43", after := #[{ on := 4, ground := Ground.data }, { on := 5, ground := Ground.data }, { on := 9, ground := Ground.data }, { on := 8, ground := Ground.chain }], guard := none }) rfl (fun K hK => ?_) AllReadyH.nil
    go_simp
    with_reducible refine (ins_any _ B _ t.rows (R.first ⟨no, tm, false, a, n, via, mt, sq⟩) p vb NX.out.tab.own HVB.out (fun e => by have := (HV0.out.1 _ e).2; omega) hpl (by have := HC.out.2.2.2.2; omega) (Nat.le_trans hBw NX.out.bl.size)).mono ?_
    rintro e w7 ⟨v7, rfl, O7, G7, V7⟩
    obtain ⟨A7, n7, c7, hv7⟩ : ∃ A7 n7 c7, v7 = .slice A7 n7 c7 := by obtain ⟨A, c, h, -, -⟩ := O7.form; exact ⟨A, _, c, h⟩
    subst hv7
    have T7 := (G7.block q NX.out.tab.lt (fun e => NX.out.tab.ne e.symm)).trans NX.out.tab.row
    have X7 := (G7.block w.heap.size (Array.getElem?_eq_some_iff.1 NX.out.box).1 (fun e => by have := (HV0.out.1 _ e.symm).2; omega)).trans NX.out.box
    have L7 := (NX.out.bl.mono hBw).trans (below_of_grown G7 (Nat.le_trans hBw NX.out.bl.size) (fun k e => (HV0.out.1 k e).1))
    have K7 : Hid (∀ k, k < w.heap.size → k ≠ q → (Value.slice A t.rows.length cp).ownBlock ≠ some k → w7.heap[k]? = w.heap[k]?) := fun k hk h1 h2 => (G7.block k (Nat.lt_of_lt_of_le hk NX.out.bl.size) (fun e => h2 e.symm)).trans (NX.out.bl.block k hk)
    have V7q : (Value.slice A7 n7 c7).ownBlock ≠ some q := by
      rcases V7 with e | e
      · rw [e]; exact HV0.out.2
      · rw [e]; intro e; injection e with e; have := NX.out.bl.size; omega
    refine hK.out _ _ (X7) (fun hHeld => ?_)
    clear hK K
    try simp only [Act.put, List.setIfInBounds_toArray, List.set_cons_zero, List.set_cons_succ]
    have HZ := Lib.hid (And.intro T7 (And.intro O7 (And.intro L7 (And.intro V7q X7))))
    clear T7 O7 L7 V7q X7 G7 V7
    refine wpAnyH_take (i := 11) (oi := { dst := some 92, op := Op.nilCheck (Operand.tmp 81), type := 0, pos := "table.go:43", after := #[{ on := 0, ground := Ground.data }, { on := 0, ground := Ground.phase }, { on := 1, ground := Ground.phase }, { on := 2, ground := Ground.phase }, { on := 3, ground := Ground.phase }, { on := 4, ground := Ground.phase }, { on := 5, ground := Ground.phase }, { on := 6, ground := Ground.phase }, { on := 7, ground := Ground.phase }, { on := 8, ground := Ground.phase }, { on := 9, ground := Ground.phase }, { on := 10, ground := Ground.phase }], guard := none }) (v := .pointer (some ⟨q, 0, none⟩)) rfl (by kernel_rfl) (by kernel_rfl) (by kernel_rfl) (fun _ _ _ h => h) (Or.inl ⟨by rfl, fun w hSw => by go_simp⟩) (by assumption) ?_
    try simp only [Act.put, List.setIfInBounds_toArray, List.set_cons_zero, List.set_cons_succ]
    refine wpAnyH_take (i := 12) (oi := { dst := some 93, op := Op.fieldAddr 70 (Operand.tmp 92) 0, type := 0, pos := "table.go:43", after := #[{ on := 11, ground := Ground.data }, { on := 0, ground := Ground.phase }, { on := 1, ground := Ground.phase }, { on := 2, ground := Ground.phase }, { on := 3, ground := Ground.phase }, { on := 4, ground := Ground.phase }, { on := 5, ground := Ground.phase }, { on := 6, ground := Ground.phase }, { on := 7, ground := Ground.phase }, { on := 8, ground := Ground.phase }, { on := 9, ground := Ground.phase }, { on := 10, ground := Ground.phase }], guard := none }) (v := .pointer (some ⟨q, 0, none⟩)) rfl (by kernel_rfl) (by kernel_rfl) (by kernel_rfl) (fun _ _ _ h => h) (Or.inl ⟨by rfl, fun w hSw => by go_simp⟩) (by assumption) ?_
    try simp only [Act.put, List.setIfInBounds_toArray, List.set_cons_zero, List.set_cons_succ]
    refine wpAnyH_ready (rs := [13]) (by kernel_rfl) (by simp) ?_
    refine AllReadyH.cons (o := { dst := none, op := Op.store 48 (Operand.tmp 93) (Operand.tmp 91), type := 0, pos := "table.go:43", after := #[{ on := 12, ground := Ground.data }, { on := 10, ground := Ground.data }, { on := 10, ground := Ground.chain }, { on := 0, ground := Ground.phase }, { on := 1, ground := Ground.phase }, { on := 2, ground := Ground.phase }, { on := 3, ground := Ground.phase }, { on := 4, ground := Ground.phase }, { on := 5, ground := Ground.phase }, { on := 6, ground := Ground.phase }, { on := 7, ground := Ground.phase }, { on := 8, ground := Ground.phase }, { on := 9, ground := Ground.phase }, { on := 10, ground := Ground.phase }], guard := none }) rfl (fun K hK => ?_) AllReadyH.nil
    obtain ⟨l0, l1, l2⟩ := row3 HZ.out.1
    have lf := fun i => frozen_of_row _ q i _ 70 HZ.out.1
    go_simp
    have N8 := (show (w7.setCell ⟨q, 0, none⟩ (.slice A7 n7 c7)).heap[q]? = some (.cells #[.slice A7 n7 c7, .int .u64 (t.no : Int), .int .u64 (t.time : Int)] 70 (0, 0)) from heap_setCell_same _ q 0 _ 70 (.slice A7 n7 c7) HZ.out.1)
    have O8 := HZ.out.2.1.keptBut (grown_setCell w7 q 0 (.slice A7 n7 c7)) HZ.out.2.2.2.1
    have X8 := (Below.heap_setCell w7 ⟨q, 0, none⟩ (.slice A7 n7 c7) w.heap.size (by show w.heap.size ≠ q; omega)).trans HZ.out.2.2.2.2
    have K8 : Hid (∀ k, k < w.heap.size → k ≠ q → (Value.slice A t.rows.length cp).ownBlock ≠ some k → (w7.setCell ⟨q, 0, none⟩ (.slice A7 n7 c7)).heap[k]? = w.heap[k]?) := fun k hk h1 h2 => (Below.heap_setCell w7 ⟨q, 0, none⟩ (.slice A7 n7 c7) k h1).trans (K7.out k hk h1 h2)
    have L8 := HZ.out.2.2.1.setCell (p := ⟨q, 0, none⟩) hBq (.slice A7 n7 c7)
    clear l0 l1 l2 lf
    generalize w7.setCell _ _ = wq at *
    have HQ := Lib.hid (show Aq w wq B q (Value.slice A t.rows.length cp).ownBlock ⟨t.rows.take p ++ R.first ⟨no, tm, false, a, n, via, mt, sq⟩ :: t.rows.drop p, t.no, t.time⟩ (.slice A7 n7 c7) #[.int .u64 (no : Int), .int .u64 (tm : Int), .bool false, .int .u32 (a : Int), .int .u8 (n : Int), .int .i64 (via : Int), .int .u16 (mt : Int), .int .u16 (sq : Int)] from ⟨⟨N8, O8, HZ.out.2.2.2.1, hBq⟩, X8, L8, K8.out⟩)
    clear N8 O8 L8
    refine hK.out _ _ X8 (fun hHeld => ?_)
    clear hK K
    try simp only [Act.put, List.setIfInBounds_toArray, List.set_cons_zero, List.set_cons_succ]
    clear X8 hHeld NX
    refine wpAnyH_done (by kernel_rfl) ?_ _
    try unfold NoPanic
    go_upto_region 16 with (fail)
    have HQ := Lib.hid (show Aq w wq.drew B q _ _ _ _ from ⟨HQ.out.tab.kept (Below.refl _ _).drew, HQ.out.box, HQ.out.bl.drew, HQ.out.ot⟩)
    refine wp_region_noPanic ?_
    refine wp_region_held_drew (S := fun W : World => W.heap[w.heap.size]? = some (.cells #[.int .u64 (no : Int), .int .u64 (tm : Int), .bool false, .int .u32 (a : Int), .int .u8 (n : Int), .int .i64 (via : Int), .int .u16 (mt : Int), .int .u16 (sq : Int)] 38 (0, 0))) (by kernel_rfl) HQ.out.box (fun hHeld => ?_)
    generalize wq.drew = wd at *
    refine wpAnyH_take (i := 0) (oi := { dst := some 94, op := Op.move (Operand.tmp 0), type := 26, pos := "table.go:47", after := #[], guard := none }) (v := .pointer (some ⟨q, 0, none⟩)) rfl (by kernel_rfl) (by kernel_rfl) (by kernel_rfl) (fun _ _ _ h => h) (Or.inl ⟨by rfl, fun w hSw => by go_simp⟩) (by assumption) ?_
    try simp only [Act.put, List.setIfInBounds_toArray, List.set_cons_zero, List.set_cons_succ]
    refine wpAnyH_take (i := 1) (oi := { dst := some 95, op := Op.move (Operand.tmp 0), type := 26, pos := "table.go:47", after := #[{ on := 8, ground := Ground.gcOnly Departure.lateStores }], guard := none }) (v := .pointer (some ⟨q, 0, none⟩)) rfl (by kernel_rfl) (by kernel_rfl) (by kernel_rfl) (fun _ _ _ h => h) (Or.inl ⟨by rfl, fun w hSw => by go_simp⟩) (by assumption) ?_
    try simp only [Act.put, List.setIfInBounds_toArray, List.set_cons_zero, List.set_cons_succ]
    refine wpAnyH_take (i := 2) (oi := { dst := some 96, op := Op.fieldAddr 38 (Operand.tmp 3) 0, type := 0, pos := "table.go:47", after := #[], guard := none }) (v := .pointer (some ⟨w.heap.size, 0, none⟩)) rfl (by kernel_rfl) (by kernel_rfl) (by kernel_rfl) (fun _ _ _ h => h) (Or.inl ⟨by rfl, fun w hSw => by go_simp⟩) (by assumption) ?_
    try simp only [Act.put, List.setIfInBounds_toArray, List.set_cons_zero, List.set_cons_succ]
    refine wpAnyH_take (i := 3) (oi := { dst := some 97, op := Op.load 28 (Operand.tmp 96), type := 28, pos := "table.go:47", after := #[{ on := 2, ground := Ground.data }], guard := none }) (v := .int .u64 (no : Int)) rfl (by kernel_rfl) (by kernel_rfl) (by kernel_rfl) (fun _ _ _ h => h) (Or.inl ⟨by rfl, fun w hSw => by obtain ⟨k0, k1, k2, k3, k4, k5, k6, k7⟩ := row8' hSw; go_simp⟩) (by assumption) ?_
    try simp only [Act.put, List.setIfInBounds_toArray, List.set_cons_zero, List.set_cons_succ]
    refine wpAnyH_take (i := 4) (oi := { dst := some 98, op := Op.fieldAddr 38 (Operand.tmp 3) 1, type := 0, pos := "table.go:47", after := #[{ on := 8, ground := Ground.gcOnly Departure.lateStores }], guard := none }) (v := .pointer (some ⟨w.heap.size, 1, none⟩)) rfl (by kernel_rfl) (by kernel_rfl) (by kernel_rfl) (fun _ _ _ h => h) (Or.inl ⟨by rfl, fun w hSw => by go_simp⟩) (by assumption) ?_
    try simp only [Act.put, List.setIfInBounds_toArray, List.set_cons_zero, List.set_cons_succ]
    refine wpAnyH_take (i := 5) (oi := { dst := some 99, op := Op.load 28 (Operand.tmp 98), type := 28, pos := "table.go:47", after := #[{ on := 4, ground := Ground.data }, { on := 8, ground := Ground.gcOnly Departure.lateStores }], guard := none }) (v := .int .u64 (tm : Int)) rfl (by kernel_rfl) (by kernel_rfl) (by kernel_rfl) (fun _ _ _ h => h) (Or.inl ⟨by rfl, fun w hSw => by obtain ⟨k0, k1, k2, k3, k4, k5, k6, k7⟩ := row8' hSw; go_simp⟩) (by assumption) ?_
    try simp only [Act.put, List.setIfInBounds_toArray, List.set_cons_zero, List.set_cons_succ]
    refine wpAnyH_take (i := 6) (oi := { dst := some 100, op := Op.nilCheck (Operand.tmp 94), type := 0, pos := "table.go:47", after := #[{ on := 0, ground := Ground.data }, { on := 0, ground := Ground.phase }, { on := 1, ground := Ground.textOnly Departure.lateStores }, { on := 2, ground := Ground.phase }, { on := 3, ground := Ground.phase }, { on := 4, ground := Ground.textOnly Departure.lateStores }, { on := 5, ground := Ground.textOnly Departure.lateStores }], guard := none }) (v := .pointer (some ⟨q, 0, none⟩)) rfl (by kernel_rfl) (by kernel_rfl) (by kernel_rfl) (fun _ _ _ h => h) (Or.inl ⟨by rfl, fun w hSw => by go_simp⟩) (by assumption) ?_
    try simp only [Act.put, List.setIfInBounds_toArray, List.set_cons_zero, List.set_cons_succ]
    refine wpAnyH_take (i := 7) (oi := { dst := some 101, op := Op.fieldAddr 70 (Operand.tmp 100) 1, type := 0, pos := "table.go:47", after := #[{ on := 6, ground := Ground.data }, { on := 0, ground := Ground.phase }, { on := 1, ground := Ground.textOnly Departure.lateStores }, { on := 2, ground := Ground.phase }, { on := 3, ground := Ground.phase }, { on := 4, ground := Ground.textOnly Departure.lateStores }, { on := 5, ground := Ground.textOnly Departure.lateStores }], guard := none }) (v := .pointer (some ⟨q, 1, none⟩)) rfl (by kernel_rfl) (by kernel_rfl) (by kernel_rfl) (fun _ _ _ h => h) (Or.inl ⟨by rfl, fun w hSw => by go_simp⟩) (by assumption) ?_
    try simp only [Act.put, List.setIfInBounds_toArray, List.set_cons_zero, List.set_cons_succ]
    refine wpAnyH_ready (rs := [8]) (by kernel_rfl) (by simp) ?_
    refine AllReadyH.cons (o := { dst := none, op := Op.store 28 (Operand.tmp 101) (Operand.tmp 97), type := 0, pos := "table.go:47", after := #[{ on := 7, ground := Ground.data }, { on := 3, ground := Ground.data }, { on := 0, ground := Ground.phase }, { on := 1, ground := Ground.textOnly Departure.lateStores }, { on := 2, ground := Ground.phase }, { on := 3, ground := Ground.phase }, { on := 4, ground := Ground.textOnly Departure.lateStores }, { on := 5, ground := Ground.textOnly Departure.lateStores }], guard := none }) rfl (fun K hK => ?_) AllReadyH.nil
    obtain ⟨l0, l1, l2⟩ := row3 HQ.out.tab.row
    have lf := fun i => frozen_of_row _ q i _ 70 HQ.out.tab.row
    go_simp
    have N1 := (heap_setCell_same _ q 1 _ 70 (.int .u64 (no : Int)) HQ.out.tab.row)
    have O1 := HQ.out.tab.own.keptBut (grown_setCell wd q 1 (.int .u64 (no : Int))) HQ.out.tab.ne
    have X1 := (Below.heap_setCell wd ⟨q, 1, none⟩ (.int .u64 (no : Int)) w.heap.size (by show w.heap.size ≠ q; omega)).trans HQ.out.box
    have L1 := HQ.out.bl.setCell (p := ⟨q, 1, none⟩) hBq (.int .u64 (no : Int))
    have HV := Lib.hid HQ.out.tab.ne
    have K1 : Hid (∀ k, k < w.heap.size → k ≠ q → _ → (wd.setCell ⟨q, 1, none⟩ (.int .u64 (no : Int))).heap[k]? = w.heap[k]?) := fun k hk h1 h2 => (Below.heap_setCell wd ⟨q, 1, none⟩ (.int .u64 (no : Int)) k h1).trans (HQ.out.ot k hk h1 h2)
    have N1 := (show (wd.setCell ⟨q, 1, none⟩ (.int .u64 (no : Int))).heap[q]? = some (.cells #[.slice A7 n7 c7, .int .u64 (no : Int), .int .u64 (t.time : Int)] 70 (0, 0)) from N1)
    clear l0 l1 l2 lf
    generalize wd.setCell _ _ = wm at *
    refine hK.out _ _ X1 (fun hHeld => ?_)
    clear hK K
    try simp only [Act.put, List.setIfInBounds_toArray, List.set_cons_zero, List.set_cons_succ]
    have HN := Lib.hid (And.intro N1 (And.intro O1 (And.intro X1 L1)))
    clear N1 O1 X1 L1
    refine wpAnyH_take (i := 9) (oi := { dst := some 102, op := Op.nilCheck (Operand.tmp 95), type := 0, pos := "table.go:47", after := #[{ on := 1, ground := Ground.data }, { on := 0, ground := Ground.phase }, { on := 1, ground := Ground.phase }, { on := 2, ground := Ground.phase }, { on := 3, ground := Ground.phase }, { on := 4, ground := Ground.phase }, { on := 5, ground := Ground.phase }, { on := 6, ground := Ground.phase }, { on := 7, ground := Ground.phase }, { on := 8, ground := Ground.phase }], guard := none }) (v := .pointer (some ⟨q, 0, none⟩)) rfl (by kernel_rfl) (by kernel_rfl) (by kernel_rfl) (fun _ _ _ h => h) (Or.inl ⟨by rfl, fun w hSw => by go_simp⟩) (by assumption) ?_
    try simp only [Act.put, List.setIfInBounds_toArray, List.set_cons_zero, List.set_cons_succ]
    refine wpAnyH_take (i := 10) (oi := { dst := some 103, op := Op.fieldAddr 70 (Operand.tmp 102) 2, type := 0, pos := "table.go:47", after := #[{ on := 9, ground := Ground.data }, { on := 0, ground := Ground.phase }, { on := 1, ground := Ground.phase }, { on := 2, ground := Ground.phase }, { on := 3, ground := Ground.phase }, { on := 4, ground := Ground.phase }, { on := 5, ground := Ground.phase }, { on := 6, ground := Ground.phase }, { on := 7, ground := Ground.phase }, { on := 8, ground := Ground.phase }], guard := none }) (v := .pointer (some ⟨q, 2, none⟩)) rfl (by kernel_rfl) (by kernel_rfl) (by kernel_rfl) (fun _ _ _ h => h) (Or.inl ⟨by rfl, fun w hSw => by go_simp⟩) (by assumption) ?_
    try simp only [Act.put, List.setIfInBounds_toArray, List.set_cons_zero, List.set_cons_succ]
    refine wpAnyH_ready (rs := [11]) (by kernel_rfl) (by simp) ?_
    refine AllReadyH.cons (o := { dst := none, op := Op.store 28 (Operand.tmp 103) (Operand.tmp 99), type := 0, pos := "table.go:47", after := #[{ on := 10, ground := Ground.data }, { on := 5, ground := Ground.data }, { on := 8, ground := Ground.chain }, { on := 0, ground := Ground.phase }, { on := 1, ground := Ground.phase }, { on := 2, ground := Ground.phase }, { on := 3, ground := Ground.phase }, { on := 4, ground := Ground.phase }, { on := 5, ground := Ground.phase }, { on := 6, ground := Ground.phase }, { on := 7, ground := Ground.phase }, { on := 8, ground := Ground.phase }], guard := none }) rfl (fun K hK => ?_) AllReadyH.nil
    obtain ⟨l0, l1, l2⟩ := row3 HN.out.1
    have lf := fun i => frozen_of_row _ q i _ 70 HN.out.1
    go_simp
    have N2 := (show (wm.setCell ⟨q, 2, none⟩ (.int .u64 (tm : Int))).heap[q]? = some (.cells #[.slice A7 n7 c7, .int .u64 (no : Int), .int .u64 (tm : Int)] 70 (0, 0)) from heap_setCell_same _ q 2 _ 70 (.int .u64 (tm : Int)) HN.out.1)
    have O2 := HN.out.2.1.keptBut (grown_setCell wm q 2 (.int .u64 (tm : Int))) HV.out
    have X2 := (Below.heap_setCell wm ⟨q, 2, none⟩ (.int .u64 (tm : Int)) w.heap.size (by show w.heap.size ≠ q; omega)).trans HN.out.2.2.1
    have K2 : Hid (∀ k, k < w.heap.size → k ≠ q → _ → (wm.setCell ⟨q, 2, none⟩ (.int .u64 (tm : Int))).heap[k]? = w.heap[k]?) := fun k hk h1 h2 => (Below.heap_setCell wm ⟨q, 2, none⟩ (.int .u64 (tm : Int)) k h1).trans (K1.out k hk h1 h2)
    have L2 := HN.out.2.2.2.setCell (p := ⟨q, 2, none⟩) hBq (.int .u64 (tm : Int))
    clear l0 l1 l2 lf
    generalize wm.setCell _ _ = wn at *
    refine hK.out _ _ X2 (fun hHeld => ?_)
    clear hK K
    try simp only [Act.put, List.setIfInBounds_toArray, List.set_cons_zero, List.set_cons_succ]
    refine wpAnyH_done (by kernel_rfl) ?_ _
    try unfold NoPanic
    go_wp2
    go_ret
    exact ⟨_, rfl, ⟨show wn.heap[q]? = some (.cells #[_, .int .u64 (no : Int), .int .u64 (tm : Int)] 70 (0, 0)) from N2, by show ROwn _ _ _ (upd _ t.rows); rw [HU.out.2]; exact O2, HV.out, hBq⟩, L2, K2.out⟩
  · go_simp
    with_reducible refine (first_any a n (via : Int) (mt : Int) (sq : Int) _).mono ?_
    rintro e w5 ⟨rfl, B5⟩
    replace NX := Lib.hid (NX.out.step B5)
    refine hK.out _ _ (NX.out.box) (fun hHeld => ?_)
    clear hK K
    try simp only [Act.put, List.setIfInBounds_toArray, List.set_cons_zero, List.set_cons_succ]
    clear B5
    have HW5 := Lib.hid NX.out.bl.size
    refine wpAnyH_ready (rs := [4, 9]) (by kernel_rfl) (by simp) ?_
    refine (AllReadyH.cons (o := { dst := some 85, op := Op.load 48 (Operand.tmp 84), type := 48, pos := "table.go:43", after := #[{ on := 3, ground := Ground.data }], guard := none }) rfl (fun K hK => ?_) (AllReadyH.cons (o := { dst := some 90, op := Op.buildSlice 48 1 #[(0, Operand.tmp 89)], type := 48, pos := "table.go:43", after := #[{ on := 8, ground := Ground.data }], guard := none }) rfl (fun K hK => ?_) AllReadyH.nil))
    · obtain ⟨l0, l1, l2⟩ := row3 NX.out.tab.row
      go_simp
      refine hK.out _ _ (NX.out.box) (fun hHeld => ?_)
      clear hK K
      try simp only [Act.put, List.setIfInBounds_toArray, List.set_cons_zero, List.set_cons_succ]
      clear l0 l1 l2
      refine wpAnyH_ready (rs := [9]) (by kernel_rfl) (by simp) ?_
      refine AllReadyH.cons (o := { dst := some 90, op := Op.buildSlice 48 1 #[(0, Operand.tmp 89)], type := 48, pos := "table.go:43", after := #[{ on := 8, ground := Ground.data }], guard := none }) rfl (fun K hK => ?_) AllReadyH.nil
      go_simp
      have HB := heap_alloc_new w5 (.cells #[.int .u32 (a : Int), .int .u8 (n : Int), .bool true, .int .u32 (a : Int), .int .u8 (n : Int), .int .i64 (via : Int), .int .u16 (mt : Int), .int .u16 (sq : Int), .int .u16 (sq : Int), .int .u16 (mt : Int)] 43)
      replace NX := Lib.hid (NX.out.step ((Below.refl w5.heap.size w5).alloc (Nat.le_refl _) (.cells #[.int .u32 (a : Int), .int .u8 (n : Int), .bool true, .int .u32 (a : Int), .int .u8 (n : Int), .int .i64 (via : Int), .int .u16 (mt : Int), .int .u16 (sq : Int), .int .u16 (sq : Int), .int .u16 (mt : Int)] 43)))
      obtain ⟨vb, hvb⟩ : ∃ vb, vb = w5.heap.size := ⟨_, rfl⟩
      have hvq : w.heap.size ≤ vb := by rw [hvb]; exact HW5.out
      rw [← hvb] at HB ⊢
      have HVB := Lib.hid (show (w5.alloc _).heap[vb]? = some (.cells (R.first ⟨no, tm, false, a, n, via, mt, sq⟩).cl.toArray 43 (0, 0)) from HB)
      clear HB hvb
      generalize w5.alloc _ = w6 at *
      refine hK.out _ _ (NX.out.box) (fun hHeld => ?_)
      clear hK K
      try simp only [Act.put, List.setIfInBounds_toArray, List.set_cons_zero, List.set_cons_succ]
      refine wpAnyH_ready (rs := [10]) (by kernel_rfl) (by simp) ?_
      refine AllReadyH.cons (o := { dst := some 91, op := Op.call { callee := Callee.value (Operand.func 40), args := #[Operand.tmp 85, Operand.tmp 86, Operand.tmp 90], argTypes := #[48, 3, 48] }, type := 48, pos := "table.go:43", after := #[{ on := 4, ground := Ground.data }, { on := 5, ground := Ground.data }, { on := 9, ground := Ground.data }, { on := 8, ground := Ground.chain }], guard := none }) rfl (fun K hK => ?_) AllReadyH.nil
      go_simp
      with_reducible refine (ins_any _ B _ t.rows (R.first ⟨no, tm, false, a, n, via, mt, sq⟩) p vb NX.out.tab.own HVB.out (fun e => by have := (HV0.out.1 _ e).2; omega) hpl (by have := HC.out.2.2.2.2; omega) (Nat.le_trans hBw NX.out.bl.size)).mono ?_
      rintro e w7 ⟨v7, rfl, O7, G7, V7⟩
      obtain ⟨A7, n7, c7, hv7⟩ : ∃ A7 n7 c7, v7 = .slice A7 n7 c7 := by obtain ⟨A, c, h, -, -⟩ := O7.form; exact ⟨A, _, c, h⟩
      subst hv7
      have T7 := (G7.block q NX.out.tab.lt (fun e => NX.out.tab.ne e.symm)).trans NX.out.tab.row
      have X7 := (G7.block w.heap.size (Array.getElem?_eq_some_iff.1 NX.out.box).1 (fun e => by have := (HV0.out.1 _ e.symm).2; omega)).trans NX.out.box
      have L7 := (NX.out.bl.mono hBw).trans (below_of_grown G7 (Nat.le_trans hBw NX.out.bl.size) (fun k e => (HV0.out.1 k e).1))
      have K7 : Hid (∀ k, k < w.heap.size → k ≠ q → (Value.slice A t.rows.length cp).ownBlock ≠ some k → w7.heap[k]? = w.heap[k]?) := fun k hk h1 h2 => (G7.block k (Nat.lt_of_lt_of_le hk NX.out.bl.size) (fun e => h2 e.symm)).trans (NX.out.bl.block k hk)
      have V7q : (Value.slice A7 n7 c7).ownBlock ≠ some q := by
        rcases V7 with e | e
        · rw [e]; exact HV0.out.2
        · rw [e]; intro e; injection e with e; have := NX.out.bl.size; omega
      refine hK.out _ _ (X7) (fun hHeld => ?_)
      clear hK K
      try simp only [Act.put, List.setIfInBounds_toArray, List.set_cons_zero, List.set_cons_succ]
      have HZ := Lib.hid (And.intro T7 (And.intro O7 (And.intro L7 (And.intro V7q X7))))
      clear T7 O7 L7 V7q X7 G7 V7
      refine wpAnyH_take (i := 11) (oi := { dst := some 92, op := Op.nilCheck (Operand.tmp 81), type := 0, pos := "table.go:43", after := #[{ on := 0, ground := Ground.data }, { on := 0, ground := Ground.phase }, { on := 1, ground := Ground.phase }, { on := 2, ground := Ground.phase }, { on := 3, ground := Ground.phase }, { on := 4, ground := Ground.phase }, { on := 5, ground := Ground.phase }, { on := 6, ground := Ground.phase }, { on := 7, ground := Ground.phase }, { on := 8, ground := Ground.phase }, { on := 9, ground := Ground.phase }, { on := 10, ground := Ground.phase }], guard := none }) (v := .pointer (some ⟨q, 0, none⟩)) rfl (by kernel_rfl) (by kernel_rfl) (by kernel_rfl) (fun _ _ _ h => h) (Or.inl ⟨by rfl, fun w hSw => by go_simp⟩) (by assumption) ?_
      try simp only [Act.put, List.setIfInBounds_toArray, List.set_cons_zero, List.set_cons_succ]
      refine wpAnyH_take (i := 12) (oi := { dst := some 93, op := Op.fieldAddr 70 (Operand.tmp 92) 0, type := 0, pos := "table.go:43", after := #[{ on := 11, ground := Ground.data }, { on := 0, ground := Ground.phase }, { on := 1, ground := Ground.phase }, { on := 2, ground := Ground.phase }, { on := 3, ground := Ground.phase }, { on := 4, ground := Ground.phase }, { on := 5, ground := Ground.phase }, { on := 6, ground := Ground.phase }, { on := 7, ground := Ground.phase }, { on := 8, ground := Ground.phase }, { on := 9, ground := Ground.phase }, { on := 10, ground := Ground.phase }], guard := none }) (v := .pointer (some ⟨q, 0, none⟩)) rfl (by kernel_rfl) (by kernel_rfl) (by kernel_rfl) (fun _ _ _ h => h) (Or.inl ⟨by rfl, fun w hSw => by go_simp⟩) (by assumption) ?_
      try simp only [Act.put, List.setIfInBounds_toArray, List.set_cons_zero, List.set_cons_succ]
      refine wpAnyH_ready (rs := [13]) (by kernel_rfl) (by simp) ?_
      refine AllReadyH.cons (o := { dst := none, op := Op.store 48 (Operand.tmp 93) (Operand.tmp 91), type := 0, pos := "table.go:43", after := #[{ on := 12, ground := Ground.data }, { on := 10, ground := Ground.data }, { on := 10, ground := Ground.chain }, { on := 0, ground := Ground.phase }, { on := 1, ground := Ground.phase }, { on := 2, ground := Ground.phase }, { on := 3, ground := Ground.phase }, { on := 4, ground := Ground.phase }, { on := 5, ground := Ground.phase }, { on := 6, ground := Ground.phase }, { on := 7, ground := Ground.phase }, { on := 8, ground := Ground.phase }, { on := 9, ground := Ground.phase }, { on := 10, ground := Ground.phase }], guard := none }) rfl (fun K hK => ?_) AllReadyH.nil
      obtain ⟨l0, l1, l2⟩ := row3 HZ.out.1
      have lf := fun i => frozen_of_row _ q i _ 70 HZ.out.1
      go_simp
      have N8 := (show (w7.setCell ⟨q, 0, none⟩ (.slice A7 n7 c7)).heap[q]? = some (.cells #[.slice A7 n7 c7, .int .u64 (t.no : Int), .int .u64 (t.time : Int)] 70 (0, 0)) from heap_setCell_same _ q 0 _ 70 (.slice A7 n7 c7) HZ.out.1)
      have O8 := HZ.out.2.1.keptBut (grown_setCell w7 q 0 (.slice A7 n7 c7)) HZ.out.2.2.2.1
      have X8 := (Below.heap_setCell w7 ⟨q, 0, none⟩ (.slice A7 n7 c7) w.heap.size (by show w.heap.size ≠ q; omega)).trans HZ.out.2.2.2.2
      have K8 : Hid (∀ k, k < w.heap.size → k ≠ q → (Value.slice A t.rows.length cp).ownBlock ≠ some k → (w7.setCell ⟨q, 0, none⟩ (.slice A7 n7 c7)).heap[k]? = w.heap[k]?) := fun k hk h1 h2 => (Below.heap_setCell w7 ⟨q, 0, none⟩ (.slice A7 n7 c7) k h1).trans (K7.out k hk h1 h2)
      have L8 := HZ.out.2.2.1.setCell (p := ⟨q, 0, none⟩) hBq (.slice A7 n7 c7)
      clear l0 l1 l2 lf
      generalize w7.setCell _ _ = wq at *
      have HQ := Lib.hid (show Aq w wq B q (Value.slice A t.rows.length cp).ownBlock ⟨t.rows.take p ++ R.first ⟨no, tm, false, a, n, via, mt, sq⟩ :: t.rows.drop p, t.no, t.time⟩ (.slice A7 n7 c7) #[.int .u64 (no : Int), .int .u64 (tm : Int), .bool false, .int .u32 (a : Int), .int .u8 (n : Int), .int .i64 (via : Int), .int .u16 (mt : Int), .int .u16 (sq : Int)] from ⟨⟨N8, O8, HZ.out.2.2.2.1, hBq⟩, X8, L8, K8.out⟩)
      clear N8 O8 L8
      refine hK.out _ _ X8 (fun hHeld => ?_)
      clear hK K
      try simp only [Act.put, List.setIfInBounds_toArray, List.set_cons_zero, List.set_cons_succ]
      clear X8 hHeld NX
      refine wpAnyH_done (by kernel_rfl) ?_ _
      try unfold NoPanic
      go_upto_region 16 with (fail)
      have HQ := Lib.hid (show Aq w wq.drew B q _ _ _ _ from ⟨HQ.out.tab.kept (Below.refl _ _).drew, HQ.out.box, HQ.out.bl.drew, HQ.out.ot⟩)
      refine wp_region_noPanic ?_
      refine wp_region_held_drew (S := fun W : World => W.heap[w.heap.size]? = some (.cells #[.int .u64 (no : Int), .int .u64 (tm : Int), .bool false, .int .u32 (a : Int), .int .u8 (n : Int), .int .i64 (via : Int), .int .u16 (mt : Int), .int .u16 (sq : Int)] 38 (0, 0))) (by kernel_rfl) HQ.out.box (fun hHeld => ?_)
      generalize wq.drew = wd at *
      refine wpAnyH_take (i := 0) (oi := { dst := some 94, op := Op.move (Operand.tmp 0), type := 26, pos := "table.go:47", after := #[], guard := none }) (v := .pointer (some ⟨q, 0, none⟩)) rfl (by kernel_rfl) (by kernel_rfl) (by kernel_rfl) (fun _ _ _ h => h) (Or.inl ⟨by rfl, fun w hSw => by go_simp⟩) (by assumption) ?_
      try simp only [Act.put, List.setIfInBounds_toArray, List.set_cons_zero, List.set_cons_succ]
      refine wpAnyH_take (i := 1) (oi := { dst := some 95, op := Op.move (Operand.tmp 0), type := 26, pos := "table.go:47", after := #[{ on := 8, ground := Ground.gcOnly Departure.lateStores }], guard := none }) (v := .pointer (some ⟨q, 0, none⟩)) rfl (by kernel_rfl) (by kernel_rfl) (by kernel_rfl) (fun _ _ _ h => h) (Or.inl ⟨by rfl, fun w hSw => by go_simp⟩) (by assumption) ?_
      try simp only [Act.put, List.setIfInBounds_toArray, List.set_cons_zero, List.set_cons_succ]
      refine wpAnyH_take (i := 2) (oi := { dst := some 96, op := Op.fieldAddr 38 (Operand.tmp 3) 0, type := 0, pos := "table.go:47", after := #[], guard := none }) (v := .pointer (some ⟨w.heap.size, 0, none⟩)) rfl (by kernel_rfl) (by kernel_rfl) (by kernel_rfl) (fun _ _ _ h => h) (Or.inl ⟨by rfl, fun w hSw => by go_simp⟩) (by assumption) ?_
      try simp only [Act.put, List.setIfInBounds_toArray, List.set_cons_zero, List.set_cons_succ]
      refine wpAnyH_take (i := 3) (oi := { dst := some 97, op := Op.load 28 (Operand.tmp 96), type := 28, pos := "table.go:47", after := #[{ on := 2, ground := Ground.data }], guard := none }) (v := .int .u64 (no : Int)) rfl (by kernel_rfl) (by kernel_rfl) (by kernel_rfl) (fun _ _ _ h => h) (Or.inl ⟨by rfl, fun w hSw => by obtain ⟨k0, k1, k2, k3, k4, k5, k6, k7⟩ := row8' hSw; go_simp⟩) (by assumption) ?_
      try simp only [Act.put, List.setIfInBounds_toArray, List.set_cons_zero, List.set_cons_succ]
      refine wpAnyH_take (i := 4) (oi := { dst := some 98, op := Op.fieldAddr 38 (Operand.tmp 3) 1, type := 0, pos := "table.go:47", after := #[{ on := 8, ground := Ground.gcOnly Departure.lateStores }], guard := none }) (v := .pointer (some ⟨w.heap.size, 1, none⟩)) rfl (by kernel_rfl) (by kernel_rfl) (by kernel_rfl) (fun _ _ _ h => h) (Or.inl ⟨by rfl, fun w hSw => by go_simp⟩) (by assumption) ?_
      try simp only [Act.put, List.setIfInBounds_toArray, List.set_cons_zero, List.set_cons_succ]
      refine wpAnyH_take (i := 5) (oi := { dst := some 99, op := Op.load 28 (Operand.tmp 98), type := 28, pos := "table.go:47", after := #[{ on := 4, ground := Ground.data }, { on := 8, ground := Ground.gcOnly Departure.lateStores }], guard := none }) (v := .int .u64 (tm : Int)) rfl (by kernel_rfl) (by kernel_rfl) (by kernel_rfl) (fun _ _ _ h => h) (Or.inl ⟨by rfl, fun w hSw => by obtain ⟨k0, k1, k2, k3, k4, k5, k6, k7⟩ := row8' hSw; go_simp⟩) (by assumption) ?_
      try simp only [Act.put, List.setIfInBounds_toArray, List.set_cons_zero, List.set_cons_succ]
      refine wpAnyH_take (i := 6) (oi := { dst := some 100, op := Op.nilCheck (Operand.tmp 94), type := 0, pos := "table.go:47", after := #[{ on := 0, ground := Ground.data }, { on := 0, ground := Ground.phase }, { on := 1, ground := Ground.textOnly Departure.lateStores }, { on := 2, ground := Ground.phase }, { on := 3, ground := Ground.phase }, { on := 4, ground := Ground.textOnly Departure.lateStores }, { on := 5, ground := Ground.textOnly Departure.lateStores }], guard := none }) (v := .pointer (some ⟨q, 0, none⟩)) rfl (by kernel_rfl) (by kernel_rfl) (by kernel_rfl) (fun _ _ _ h => h) (Or.inl ⟨by rfl, fun w hSw => by go_simp⟩) (by assumption) ?_
      try simp only [Act.put, List.setIfInBounds_toArray, List.set_cons_zero, List.set_cons_succ]
      refine wpAnyH_take (i := 7) (oi := { dst := some 101, op := Op.fieldAddr 70 (Operand.tmp 100) 1, type := 0, pos := "table.go:47", after := #[{ on := 6, ground := Ground.data }, { on := 0, ground := Ground.phase }, { on := 1, ground := Ground.textOnly Departure.lateStores }, { on := 2, ground := Ground.phase }, { on := 3, ground := Ground.phase }, { on := 4, ground := Ground.textOnly Departure.lateStores }, { on := 5, ground := Ground.textOnly Departure.lateStores }], guard := none }) (v := .pointer (some ⟨q, 1, none⟩)) rfl (by kernel_rfl) (by kernel_rfl) (by kernel_rfl) (fun _ _ _ h => h) (Or.inl ⟨by rfl, fun w hSw => by go_simp⟩) (by assumption) ?_
      try simp only [Act.put, List.setIfInBounds_toArray, List.set_cons_zero, List.set_cons_succ]
      refine wpAnyH_ready (rs := [8]) (by kernel_rfl) (by simp) ?_
      refine AllReadyH.cons (o := { dst := none, op := Op.store 28 (Operand.tmp 101) (Operand.tmp 97), type := 0, pos := "table.go:47", after := #[{ on := 7, ground := Ground.data }, { on := 3, ground := Ground.data }, { on := 0, ground := Ground.phase }, { on := 1, ground := Ground.textOnly Departure.lateStores }, { on := 2, ground := Ground.phase }, { on := 3, ground := Ground.phase }, { on := 4, ground := Ground.textOnly Departure.lateStores }, { on := 5, ground := Ground.textOnly Departure.lateStores }], guard := none }) rfl (fun K hK => ?_) AllReadyH.nil
      obtain ⟨l0, l1, l2⟩ := row3 HQ.out.tab.row
      have lf := fun i => frozen_of_row _ q i _ 70 HQ.out.tab.row
      go_simp
      have N1 := (heap_setCell_same _ q 1 _ 70 (.int .u64 (no : Int)) HQ.out.tab.row)
      have O1 := HQ.out.tab.own.keptBut (grown_setCell wd q 1 (.int .u64 (no : Int))) HQ.out.tab.ne
      have X1 := (Below.heap_setCell wd ⟨q, 1, none⟩ (.int .u64 (no : Int)) w.heap.size (by show w.heap.size ≠ q; omega)).trans HQ.out.box
      have L1 := HQ.out.bl.setCell (p := ⟨q, 1, none⟩) hBq (.int .u64 (no : Int))
      have HV := Lib.hid HQ.out.tab.ne
      have K1 : Hid (∀ k, k < w.heap.size → k ≠ q → _ → (wd.setCell ⟨q, 1, none⟩ (.int .u64 (no : Int))).heap[k]? = w.heap[k]?) := fun k hk h1 h2 => (Below.heap_setCell wd ⟨q, 1, none⟩ (.int .u64 (no : Int)) k h1).trans (HQ.out.ot k hk h1 h2)
      have N1 := (show (wd.setCell ⟨q, 1, none⟩ (.int .u64 (no : Int))).heap[q]? = some (.cells #[.slice A7 n7 c7, .int .u64 (no : Int), .int .u64 (t.time : Int)] 70 (0, 0)) from N1)
      clear l0 l1 l2 lf
      generalize wd.setCell _ _ = wm at *
      refine hK.out _ _ X1 (fun hHeld => ?_)
      clear hK K
      try simp only [Act.put, List.setIfInBounds_toArray, List.set_cons_zero, List.set_cons_succ]
      have HN := Lib.hid (And.intro N1 (And.intro O1 (And.intro X1 L1)))
      clear N1 O1 X1 L1
      refine wpAnyH_take (i := 9) (oi := { dst := some 102, op := Op.nilCheck (Operand.tmp 95), type := 0, pos := "table.go:47", after := #[{ on := 1, ground := Ground.data }, { on := 0, ground := Ground.phase }, { on := 1, ground := Ground.phase }, { on := 2, ground := Ground.phase }, { on := 3, ground := Ground.phase }, { on := 4, ground := Ground.phase }, { on := 5, ground := Ground.phase }, { on := 6, ground := Ground.phase }, { on := 7, ground := Ground.phase }, { on := 8, ground := Ground.phase }], guard := none }) (v := .pointer (some ⟨q, 0, none⟩)) rfl (by kernel_rfl) (by kernel_rfl) (by kernel_rfl) (fun _ _ _ h => h) (Or.inl ⟨by rfl, fun w hSw => by go_simp⟩) (by assumption) ?_
      try simp only [Act.put, List.setIfInBounds_toArray, List.set_cons_zero, List.set_cons_succ]
      refine wpAnyH_take (i := 10) (oi := { dst := some 103, op := Op.fieldAddr 70 (Operand.tmp 102) 2, type := 0, pos := "table.go:47", after := #[{ on := 9, ground := Ground.data }, { on := 0, ground := Ground.phase }, { on := 1, ground := Ground.phase }, { on := 2, ground := Ground.phase }, { on := 3, ground := Ground.phase }, { on := 4, ground := Ground.phase }, { on := 5, ground := Ground.phase }, { on := 6, ground := Ground.phase }, { on := 7, ground := Ground.phase }, { on := 8, ground := Ground.phase }], guard := none }) (v := .pointer (some ⟨q, 2, none⟩)) rfl (by kernel_rfl) (by kernel_rfl) (by kernel_rfl) (fun _ _ _ h => h) (Or.inl ⟨by rfl, fun w hSw => by go_simp⟩) (by assumption) ?_
      try simp only [Act.put, List.setIfInBounds_toArray, List.set_cons_zero, List.set_cons_succ]
      refine wpAnyH_ready (rs := [11]) (by kernel_rfl) (by simp) ?_
      refine AllReadyH.cons (o := { dst := none, op := Op.store 28 (Operand.tmp 103) (Operand.tmp 99), type := 0, pos := "table.go:47", after := #[{ on := 10, ground := Ground.data }, { on := 5, ground := Ground.data }, { on := 8, ground := Ground.chain }, { on := 0, ground := Ground.phase }, { on := 1, ground := Ground.phase }, { on := 2, ground := Ground.phase }, { on := 3, ground := Ground.phase }, { on := 4, ground := Ground.phase }, { on := 5, ground := Ground.phase }, { on := 6, ground := Ground.phase }, { on := 7, ground := Ground.phase }, { on := 8, ground := Ground.phase }], guard := none }) rfl (fun K hK => ?_) AllReadyH.nil
      obtain ⟨l0, l1, l2⟩ := row3 HN.out.1
      have lf := fun i => frozen_of_row _ q i _ 70 HN.out.1
      go_simp
      have N2 := (show (wm.setCell ⟨q, 2, none⟩ (.int .u64 (tm : Int))).heap[q]? = some (.cells #[.slice A7 n7 c7, .int .u64 (no : Int), .int .u64 (tm : Int)] 70 (0, 0)) from heap_setCell_same _ q 2 _ 70 (.int .u64 (tm : Int)) HN.out.1)
      have O2 := HN.out.2.1.keptBut (grown_setCell wm q 2 (.int .u64 (tm : Int))) HV.out
      have X2 := (Below.heap_setCell wm ⟨q, 2, none⟩ (.int .u64 (tm : Int)) w.heap.size (by show w.heap.size ≠ q; omega)).trans HN.out.2.2.1
      have K2 : Hid (∀ k, k < w.heap.size → k ≠ q → _ → (wm.setCell ⟨q, 2, none⟩ (.int .u64 (tm : Int))).heap[k]? = w.heap[k]?) := fun k hk h1 h2 => (Below.heap_setCell wm ⟨q, 2, none⟩ (.int .u64 (tm : Int)) k h1).trans (K1.out k hk h1 h2)
      have L2 := HN.out.2.2.2.setCell (p := ⟨q, 2, none⟩) hBq (.int .u64 (tm : Int))
      clear l0 l1 l2 lf
      generalize wm.setCell _ _ = wn at *
      refine hK.out _ _ X2 (fun hHeld => ?_)
      clear hK K
      try simp only [Act.put, List.setIfInBounds_toArray, List.set_cons_zero, List.set_cons_succ]
      refine wpAnyH_done (by kernel_rfl) ?_ _
      try unfold NoPanic
      go_wp2
      go_ret
      exact ⟨_, rfl, ⟨show wn.heap[q]? = some (.cells #[_, .int .u64 (no : Int), .int .u64 (tm : Int)] 70 (0, 0)) from N2, by show ROwn _ _ _ (upd _ t.rows); rw [HU.out.2]; exact O2, HV.out, hBq⟩, L2, K2.out⟩
    · go_simp
      have HB := heap_alloc_new w5 (.cells #[.int .u32 (a : Int), .int .u8 (n : Int), .bool true, .int .u32 (a : Int), .int .u8 (n : Int), .int .i64 (via : Int), .int .u16 (mt : Int), .int .u16 (sq : Int), .int .u16 (sq : Int), .int .u16 (mt : Int)] 43)
      replace NX := Lib.hid (NX.out.step ((Below.refl w5.heap.size w5).alloc (Nat.le_refl _) (.cells #[.int .u32 (a : Int), .int .u8 (n : Int), .bool true, .int .u32 (a : Int), .int .u8 (n : Int), .int .i64 (via : Int), .int .u16 (mt : Int), .int .u16 (sq : Int), .int .u16 (sq : Int), .int .u16 (mt : Int)] 43)))
      obtain ⟨vb, hvb⟩ : ∃ vb, vb = w5.heap.size := ⟨_, rfl⟩
      have hvq : w.heap.size ≤ vb := by rw [hvb]; exact HW5.out
      rw [← hvb] at HB ⊢
      have HVB := Lib.hid (show (w5.alloc _).heap[vb]? = some (.cells (R.first ⟨no, tm, false, a, n, via, mt, sq⟩).cl.toArray 43 (0, 0)) from HB)
      clear HB hvb
      generalize w5.alloc _ = w6 at *
      refine hK.out _ _ (NX.out.box) (fun hHeld => ?_)
      clear hK K
      try simp only [Act.put, List.setIfInBounds_toArray, List.set_cons_zero, List.set_cons_succ]
      refine wpAnyH_ready (rs := [4]) (by kernel_rfl) (by simp) ?_
      refine AllReadyH.cons (o := { dst := some 85, op := Op.load 48 (Operand.tmp 84), type := 48, pos := "table.go:43", after := #[{ on := 3, ground := Ground.data }], guard := none }) rfl (fun K hK => ?_) AllReadyH.nil
      obtain ⟨l0, l1, l2⟩ := row3 NX.out.tab.row
      go_simp
      refine hK.out _ _ (NX.out.box) (fun hHeld => ?_)
      clear hK K
      try simp only [Act.put, List.setIfInBounds_toArray, List.set_cons_zero, List.set_cons_succ]
      clear l0 l1 l2
      refine wpAnyH_ready (rs := [10]) (by kernel_rfl) (by simp) ?_
      refine AllReadyH.cons (o := { dst := some 91, op := Op.call { callee := Callee.value (Operand.func 40), args := #[Operand.tmp 85, Operand.tmp 86, Operand.tmp 90], argTypes := #[48, 3, 48] }, type := 48, pos := "table.go:43", after := #[{ on := 4, ground := Ground.data }, { on := 5, ground := Ground.data }, { on := 9, ground := Ground.data }, { on := 8, ground := Ground.chain }], guard := none }) rfl (fun K hK => ?_) AllReadyH.nil
      go_simp
      with_reducible refine (ins_any _ B _ t.rows (R.first ⟨no, tm, false, a, n, via, mt, sq⟩) p vb NX.out.tab.own HVB.out (fun e => by have := (HV0.out.1 _ e).2; omega) hpl (by have := HC.out.2.2.2.2; omega) (Nat.le_trans hBw NX.out.bl.size)).mono ?_
      rintro e w7 ⟨v7, rfl, O7, G7, V7⟩
      obtain ⟨A7, n7, c7, hv7⟩ : ∃ A7 n7 c7, v7 = .slice A7 n7 c7 := by obtain ⟨A, c, h, -, -⟩ := O7.form; exact ⟨A, _, c, h⟩
      subst hv7
      have T7 := (G7.block q NX.out.tab.lt (fun e => NX.out.tab.ne e.symm)).trans NX.out.tab.row
      have X7 := (G7.block w.heap.size (Array.getElem?_eq_some_iff.1 NX.out.box).1 (fun e => by have := (HV0.out.1 _ e.symm).2; omega)).trans NX.out.box
      have L7 := (NX.out.bl.mono hBw).trans (below_of_grown G7 (Nat.le_trans hBw NX.out.bl.size) (fun k e => (HV0.out.1 k e).1))
      have K7 : Hid (∀ k, k < w.heap.size → k ≠ q → (Value.slice A t.rows.length cp).ownBlock ≠ some k → w7.heap[k]? = w.heap[k]?) := fun k hk h1 h2 => (G7.block k (Nat.lt_of_lt_of_le hk NX.out.bl.size) (fun e => h2 e.symm)).trans (NX.out.bl.block k hk)
      have V7q : (Value.slice A7 n7 c7).ownBlock ≠ some q := by
        rcases V7 with e | e
        · rw [e]; exact HV0.out.2
        · rw [e]; intro e; injection e with e; have := NX.out.bl.size; omega
      refine hK.out _ _ (X7) (fun hHeld => ?_)
      clear hK K
      try simp only [Act.put, List.setIfInBounds_toArray, List.set_cons_zero, List.set_cons_succ]
      have HZ := Lib.hid (And.intro T7 (And.intro O7 (And.intro L7 (And.intro V7q X7))))
      clear T7 O7 L7 V7q X7 G7 V7
      refine wpAnyH_take (i := 11) (oi := { dst := some 92, op := Op.nilCheck (Operand.tmp 81), type := 0, pos := "table.go:43", after := #[{ on := 0, ground := Ground.data }, { on := 0, ground := Ground.phase }, { on := 1, ground := Ground.phase }, { on := 2, ground := Ground.phase }, { on := 3, ground := Ground.phase }, { on := 4, ground := Ground.phase }, { on := 5, ground := Ground.phase }, { on := 6, ground := Ground.phase }, { on := 7, ground := Ground.phase }, { on := 8, ground := Ground.phase }, { on := 9, ground := Ground.phase }, { on := 10, ground := Ground.phase }], guard := none }) (v := .pointer (some ⟨q, 0, none⟩)) rfl (by kernel_rfl) (by kernel_rfl) (by kernel_rfl) (fun _ _ _ h => h) (Or.inl ⟨by rfl, fun w hSw => by go_simp⟩) (by assumption) ?_
      try simp only [Act.put, List.setIfInBounds_toArray, List.set_cons_zero, List.set_cons_succ]
      refine wpAnyH_take (i := 12) (oi := { dst := some 93, op := Op.fieldAddr 70 (Operand.tmp 92) 0, type := 0, pos := "table.go:43", after := #[{ on := 11, ground := Ground.data }, { on := 0, ground := Ground.phase }, { on := 1, ground := Ground.phase }, { on := 2, ground := Ground.phase }, { on := 3, ground := Ground.phase }, { on := 4, ground := Ground.phase }, { on := 5, ground := Ground.phase }, { on := 6, ground := Ground.phase }, { on := 7, ground := Ground.phase }, { on := 8, ground := Ground.phase }, { on := 9, ground := Ground.phase }, { on := 10, ground := Ground.phase }], guard := none }) (v := .pointer (some ⟨q, 0, none⟩)) rfl (by kernel_rfl) (by kernel_rfl) (by kernel_rfl) (fun _ _ _ h => h) (Or.inl ⟨by rfl, fun w hSw => by go_simp⟩) (by assumption) ?_
      try simp only [Act.put, List.setIfInBounds_toArray, List.set_cons_zero, List.set_cons_succ]
      refine wpAnyH_ready (rs := [13]) (by kernel_rfl) (by simp) ?_
      refine AllReadyH.cons (o := { dst := none, op := Op.store 48 (Operand.tmp 93) (Operand.tmp 91), type := 0, pos := "table.go:43", after := #[{ on := 12, ground := Ground.data }, { on := 10, ground := Ground.data }, { on := 10, ground := Ground.chain }, { on := 0, ground := Ground.phase }, { on := 1, ground := Ground.phase }, { on := 2, ground := Ground.phase }, { on := 3, ground := Ground.phase }, { on := 4, ground := Ground.phase }, { on := 5, ground := Ground.phase }, { on := 6, ground := Ground.phase }, { on := 7, ground := Ground.phase }, { on := 8, ground := Ground.phase }, { on := 9, ground := Ground.phase }, { on := 10, ground := Ground.phase }], guard := none }) rfl (fun K hK => ?_) AllReadyH.nil
      obtain ⟨l0, l1, l2⟩ := row3 HZ.out.1
      have lf := fun i => frozen_of_row _ q i _ 70 HZ.out.1
      go_simp
      have N8 := (show (w7.setCell ⟨q, 0, none⟩ (.slice A7 n7 c7)).heap[q]? = some (.cells #[.slice A7 n7 c7, .int .u64 (t.no : Int), .int .u64 (t.time : Int)] 70 (0, 0)) from heap_setCell_same _ q 0 _ 70 (.slice A7 n7 c7) HZ.out.1)
      have O8 := HZ.out.2.1.keptBut (grown_setCell w7 q 0 (.slice A7 n7 c7)) HZ.out.2.2.2.1
      have X8 := (Below.heap_setCell w7 ⟨q, 0, none⟩ (.slice A7 n7 c7) w.heap.size (by show w.heap.size ≠ q; omega)).trans HZ.out.2.2.2.2
      have K8 : Hid (∀ k, k < w.heap.size → k ≠ q → (Value.slice A t.rows.length cp).ownBlock ≠ some k → (w7.setCell ⟨q, 0, none⟩ (.slice A7 n7 c7)).heap[k]? = w.heap[k]?) := fun k hk h1 h2 => (Below.heap_setCell w7 ⟨q, 0, none⟩ (.slice A7 n7 c7) k h1).trans (K7.out k hk h1 h2)
      have L8 := HZ.out.2.2.1.setCell (p := ⟨q, 0, none⟩) hBq (.slice A7 n7 c7)
      clear l0 l1 l2 lf
      generalize w7.setCell _ _ = wq at *
      have HQ := Lib.hid (show Aq w wq B q (Value.slice A t.rows.length cp).ownBlock ⟨t.rows.take p ++ R.first ⟨no, tm, false, a, n, via, mt, sq⟩ :: t.rows.drop p, t.no, t.time⟩ (.slice A7 n7 c7) #[.int .u64 (no : Int), .int .u64 (tm : Int), .bool false, .int .u32 (a : Int), .int .u8 (n : Int), .int .i64 (via : Int), .int .u16 (mt : Int), .int .u16 (sq : Int)] from ⟨⟨N8, O8, HZ.out.2.2.2.1, hBq⟩, X8, L8, K8.out⟩)
      clear N8 O8 L8
      refine hK.out _ _ X8 (fun hHeld => ?_)
      clear hK K
      try simp only [Act.put, List.setIfInBounds_toArray, List.set_cons_zero, List.set_cons_succ]
      clear X8 hHeld NX
      refine wpAnyH_done (by kernel_rfl) ?_ _
      try unfold NoPanic
      go_upto_region 16 with (fail)
      have HQ := Lib.hid (show Aq w wq.drew B q _ _ _ _ from ⟨HQ.out.tab.kept (Below.refl _ _).drew, HQ.out.box, HQ.out.bl.drew, HQ.out.ot⟩)
      refine wp_region_noPanic ?_
      refine wp_region_held_drew (S := fun W : World => W.heap[w.heap.size]? = some (.cells #[.int .u64 (no : Int), .int .u64 (tm : Int), .bool false, .int .u32 (a : Int), .int .u8 (n : Int), .int .i64 (via : Int), .int .u16 (mt : Int), .int .u16 (sq : Int)] 38 (0, 0))) (by kernel_rfl) HQ.out.box (fun hHeld => ?_)
      generalize wq.drew = wd at *
      refine wpAnyH_take (i := 0) (oi := { dst := some 94, op := Op.move (Operand.tmp 0), type := 26, pos := "table.go:47", after := #[], guard := none }) (v := .pointer (some ⟨q, 0, none⟩)) rfl (by kernel_rfl) (by kernel_rfl) (by kernel_rfl) (fun _ _ _ h => h) (Or.inl ⟨by rfl, fun w hSw => by go_simp⟩) (by assumption) ?_
      try simp only [Act.put, List.setIfInBounds_toArray, List.set_cons_zero, List.set_cons_succ]
      refine wpAnyH_take (i := 1) (oi := { dst := some 95, op := Op.move (Operand.tmp 0), type := 26, pos := "table.go:47", after := #[{ on := 8, ground := Ground.gcOnly Departure.lateStores }], guard := none }) (v := .pointer (some ⟨q, 0, none⟩)) rfl (by kernel_rfl) (by kernel_rfl) (by kernel_rfl) (fun _ _ _ h => h) (Or.inl ⟨by rfl, fun w hSw => by go_simp⟩) (by assumption) ?_
      try simp only [Act.put, List.setIfInBounds_toArray, List.set_cons_zero, List.set_cons_succ]
      refine wpAnyH_take (i := 2) (oi := { dst := some 96, op := Op.fieldAddr 38 (Operand.tmp 3) 0, type := 0, pos := "table.go:47", after := #[], guard := none }) (v := .pointer (some ⟨w.heap.size, 0, none⟩)) rfl (by kernel_rfl) (by kernel_rfl) (by kernel_rfl) (fun _ _ _ h => h) (Or.inl ⟨by rfl, fun w hSw => by go_simp⟩) (by assumption) ?_
      try simp only [Act.put, List.setIfInBounds_toArray, List.set_cons_zero, List.set_cons_succ]
      refine wpAnyH_take (i := 3) (oi := { dst := some 97, op := Op.load 28 (Operand.tmp 96), type := 28, pos := "table.go:47", after := #[{ on := 2, ground := Ground.data }], guard := none }) (v := .int .u64 (no : Int)) rfl (by kernel_rfl) (by kernel_rfl) (by kernel_rfl) (fun _ _ _ h => h) (Or.inl ⟨by rfl, fun w hSw => by obtain ⟨k0, k1, k2, k3, k4, k5, k6, k7⟩ := row8' hSw; go_simp⟩) (by assumption) ?_
      try simp only [Act.put, List.setIfInBounds_toArray, List.set_cons_zero, List.set_cons_succ]
      refine wpAnyH_take (i := 4) (oi := { dst := some 98, op := Op.fieldAddr 38 (Operand.tmp 3) 1, type := 0, pos := "table.go:47", after := #[{ on := 8, ground := Ground.gcOnly Departure.lateStores }], guard := none }) (v := .pointer (some ⟨w.heap.size, 1, none⟩)) rfl (by kernel_rfl) (by kernel_rfl) (by kernel_rfl) (fun _ _ _ h => h) (Or.inl ⟨by rfl, fun w hSw => by go_simp⟩) (by assumption) ?_
      try simp only [Act.put, List.setIfInBounds_toArray, List.set_cons_zero, List.set_cons_succ]
      refine wpAnyH_take (i := 5) (oi := { dst := some 99, op := Op.load 28 (Operand.tmp 98), type := 28, pos := "table.go:47", after := #[{ on := 4, ground := Ground.data }, { on := 8, ground := Ground.gcOnly Departure.lateStores }], guard := none }) (v := .int .u64 (tm : Int)) rfl (by kernel_rfl) (by kernel_rfl) (by kernel_rfl) (fun _ _ _ h => h) (Or.inl ⟨by rfl, fun w hSw => by obtain ⟨k0, k1, k2, k3, k4, k5, k6, k7⟩ := row8' hSw; go_simp⟩) (by assumption) ?_
      try simp only [Act.put, List.setIfInBounds_toArray, List.set_cons_zero, List.set_cons_succ]
      refine wpAnyH_take (i := 6) (oi := { dst := some 100, op := Op.nilCheck (Operand.tmp 94), type := 0, pos := "table.go:47", after := #[{ on := 0, ground := Ground.data }, { on := 0, ground := Ground.phase }, { on := 1, ground := Ground.textOnly Departure.lateStores }, { on := 2, ground := Ground.phase }, { on := 3, ground := Ground.phase }, { on := 4, ground := Ground.textOnly Departure.lateStores }, { on := 5, ground := Ground.textOnly Departure.lateStores }], guard := none }) (v := .pointer (some ⟨q, 0, none⟩)) rfl (by kernel_rfl) (by kernel_rfl) (by kernel_rfl) (fun _ _ _ h => h) (Or.inl ⟨by rfl, fun w hSw => by go_simp⟩) (by assumption) ?_
      try simp only [Act.put, List.setIfInBounds_toArray, List.set_cons_zero, List.set_cons_succ]
      refine wpAnyH_take (i := 7) (oi := { dst := some 101, op := Op.fieldAddr 70 (Operand.tmp 100) 1, type := 0, pos := "table.go:47", after := #[{ on := 6, ground := Ground.data }, { on := 0, ground := Ground.phase }, { on := 1, ground := Ground.textOnly Departure.lateStores }, { on := 2, ground := Ground.phase }, { on := 3, ground := Ground.phase }, { on := 4, ground := Ground.textOnly Departure.lateStores }, { on := 5, ground := Ground.textOnly Departure.lateStores }], guard := none }) (v := .pointer (some ⟨q, 1, none⟩)) rfl (by kernel_rfl) (by kernel_rfl) (by kernel_rfl) (fun _ _ _ h => h) (Or.inl ⟨by rfl, fun w hSw => by go_simp⟩) (by assumption) ?_
      try simp only [Act.put, List.setIfInBounds_toArray, List.set_cons_zero, List.set_cons_succ]
      refine wpAnyH_ready (rs := [8]) (by kernel_rfl) (by simp) ?_
      refine AllReadyH.cons (o := { dst := none, op := Op.store 28 (Operand.tmp 101) (Operand.tmp 97), type := 0, pos := "table.go:47", after := #[{ on := 7, ground := Ground.data }, { on := 3, ground := Ground.data }, { on := 0, ground := Ground.phase }, { on := 1, ground := Ground.textOnly Departure.lateStores }, { on := 2, ground := Ground.phase }, { on := 3, ground := Ground.phase }, { on := 4, ground := Ground.textOnly Departure.lateStores }, { on := 5, ground := Ground.textOnly Departure.lateStores }], guard := none }) rfl (fun K hK => ?_) AllReadyH.nil
      obtain ⟨l0, l1, l2⟩ := row3 HQ.out.tab.row
      have lf := fun i => frozen_of_row _ q i _ 70 HQ.out.tab.row
      go_simp
      have N1 := (heap_setCell_same _ q 1 _ 70 (.int .u64 (no : Int)) HQ.out.tab.row)
      have O1 := HQ.out.tab.own.keptBut (grown_setCell wd q 1 (.int .u64 (no : Int))) HQ.out.tab.ne
      have X1 := (Below.heap_setCell wd ⟨q, 1, none⟩ (.int .u64 (no : Int)) w.heap.size (by show w.heap.size ≠ q; omega)).trans HQ.out.box
      have L1 := HQ.out.bl.setCell (p := ⟨q, 1, none⟩) hBq (.int .u64 (no : Int))
      have HV := Lib.hid HQ.out.tab.ne
      have K1 : Hid (∀ k, k < w.heap.size → k ≠ q → _ → (wd.setCell ⟨q, 1, none⟩ (.int .u64 (no : Int))).heap[k]? = w.heap[k]?) := fun k hk h1 h2 => (Below.heap_setCell wd ⟨q, 1, none⟩ (.int .u64 (no : Int)) k h1).trans (HQ.out.ot k hk h1 h2)
      have N1 := (show (wd.setCell ⟨q, 1, none⟩ (.int .u64 (no : Int))).heap[q]? = some (.cells #[.slice A7 n7 c7, .int .u64 (no : Int), .int .u64 (t.time : Int)] 70 (0, 0)) from N1)
      clear l0 l1 l2 lf
      generalize wd.setCell _ _ = wm at *
      refine hK.out _ _ X1 (fun hHeld => ?_)
      clear hK K
      try simp only [Act.put, List.setIfInBounds_toArray, List.set_cons_zero, List.set_cons_succ]
      have HN := Lib.hid (And.intro N1 (And.intro O1 (And.intro X1 L1)))
      clear N1 O1 X1 L1
      refine wpAnyH_take (i := 9) (oi := { dst := some 102, op := Op.nilCheck (Operand.tmp 95), type := 0, pos := "table.go:47", after := #[{ on := 1, ground := Ground.data }, { on := 0, ground := Ground.phase }, { on := 1, ground := Ground.phase }, { on := 2, ground := Ground.phase }, { on := 3, ground := Ground.phase }, { on := 4, ground := Ground.phase }, { on := 5, ground := Ground.phase }, { on := 6, ground := Ground.phase }, { on := 7, ground := Ground.phase }, { on := 8, ground := Ground.phase }], guard := none }) (v := .pointer (some ⟨q, 0, none⟩)) rfl (by kernel_rfl) (by kernel_rfl) (by kernel_rfl) (fun _ _ _ h => h) (Or.inl ⟨by rfl, fun w hSw => by go_simp⟩) (by assumption) ?_
      try simp only [Act.put, List.setIfInBounds_toArray, List.set_cons_zero, List.set_cons_succ]
      refine wpAnyH_take (i := 10) (oi := { dst := some 103, op := Op.fieldAddr 70 (Operand.tmp 102) 2, type := 0, pos := "table.go:47", after := #[{ on := 9, ground := Ground.data }, { on := 0, ground := Ground.phase }, { on := 1, ground := Ground.phase }, { on := 2, ground := Ground.phase }, { on := 3, ground := Ground.phase }, { on := 4, ground := Ground.phase }, { on := 5, ground := Ground.phase }, { on := 6, ground := Ground.phase }, { on := 7, ground := Ground.phase }, { on := 8, ground := Ground.phase }], guard := none }) (v := .pointer (some ⟨q, 2, none⟩)) rfl (by kernel_rfl) (by kernel_rfl) (by kernel_rfl) (fun _ _ _ h => h) (Or.inl ⟨by rfl, fun w hSw => by go_simp⟩) (by assumption) ?_
      try simp only [Act.put, List.setIfInBounds_toArray, List.set_cons_zero, List.set_cons_succ]
      refine wpAnyH_ready (rs := [11]) (by kernel_rfl) (by simp) ?_
      refine AllReadyH.cons (o := { dst := none, op := Op.store 28 (Operand.tmp 103) (Operand.tmp 99), type := 0, pos := "table.go:47", after := #[{ on := 10, ground := Ground.data }, { on := 5, ground := Ground.data }, { on := 8, ground := Ground.chain }, { on := 0, ground := Ground.phase }, { on := 1, ground := Ground.phase }, { on := 2, ground := Ground.phase }, { on := 3, ground := Ground.phase }, { on := 4, ground := Ground.phase }, { on := 5, ground := Ground.phase }, { on := 6, ground := Ground.phase }, { on := 7, ground := Ground.phase }, { on := 8, ground := Ground.phase }], guard := none }) rfl (fun K hK => ?_) AllReadyH.nil
      obtain ⟨l0, l1, l2⟩ := row3 HN.out.1
      have lf := fun i => frozen_of_row _ q i _ 70 HN.out.1
      go_simp
      have N2 := (show (wm.setCell ⟨q, 2, none⟩ (.int .u64 (tm : Int))).heap[q]? = some (.cells #[.slice A7 n7 c7, .int .u64 (no : Int), .int .u64 (tm : Int)] 70 (0, 0)) from heap_setCell_same _ q 2 _ 70 (.int .u64 (tm : Int)) HN.out.1)
      have O2 := HN.out.2.1.keptBut (grown_setCell wm q 2 (.int .u64 (tm : Int))) HV.out
      have X2 := (Below.heap_setCell wm ⟨q, 2, none⟩ (.int .u64 (tm : Int)) w.heap.size (by show w.heap.size ≠ q; omega)).trans HN.out.2.2.1
      have K2 : Hid (∀ k, k < w.heap.size → k ≠ q → _ → (wm.setCell ⟨q, 2, none⟩ (.int .u64 (tm : Int))).heap[k]? = w.heap[k]?) := fun k hk h1 h2 => (Below.heap_setCell wm ⟨q, 2, none⟩ (.int .u64 (tm : Int)) k h1).trans (K1.out k hk h1 h2)
      have L2 := HN.out.2.2.2.setCell (p := ⟨q, 2, none⟩) hBq (.int .u64 (tm : Int))
      clear l0 l1 l2 lf
      generalize wm.setCell _ _ = wn at *
      refine hK.out _ _ X2 (fun hHeld => ?_)
      clear hK K
      try simp only [Act.put, List.setIfInBounds_toArray, List.set_cons_zero, List.set_cons_succ]
      refine wpAnyH_done (by kernel_rfl) ?_ _
      try unfold NoPanic
      go_wp2
      go_ret
      exact ⟨_, rfl, ⟨show wn.heap[q]? = some (.cells #[_, .int .u64 (no : Int), .int .u64 (tm : Int)] 70 (0, 0)) from N2, by show ROwn _ _ _ (upd _ t.rows); rw [HU.out.2]; exact O2, HV.out, hBq⟩, L2, K2.out⟩
theorem apply_any (w : World) (B q : Nat) (t : T) (v : Value) (c : C) (h : TabAt w B q t v) (ht : t.Ok) (hc : c.Ok) (hno : c.no = t.no + 1) (htime : t.time ≤ c.time) (hg : c.gone = true → ∃ r, look c.key t.rows = some r ∧ r.has = true) (hlen : t.rows.length ≤ 250) :
    Calls Try.prog 22 #[.pointer (some ⟨q, 0, none⟩), .agg c.cells] w (PutSaid w B q v.ownBlock (t.put c)) := by
  obtain ⟨no, tm, g, a, n, via, mt, sq⟩ := c
  cases hth : thereB (key a n) t.rows
  · refine apply_new w B q t v no tm a n via mt sq g h ht hc hno htime hlen hth ?_
    cases g
    · rfl
    · obtain ⟨r, hr, _⟩ := hg rfl
      rw [key_mk] at hr
      have := (look_there ht.up hr).1
      rw [hth] at this; cases this
  · refine apply_there w B q t v no tm a n via mt sq g h ht hc hno htime hlen hth ?_
    intro e r hr
    obtain ⟨r', hr', hh⟩ := hg e
    rw [key_mk] at hr'
    obtain ⟨_, hp, e2⟩ := look_there ht.up hr'
    rw [List.getElem?_eq_getElem hp] at hr
    injection hr with hr
    rw [← hr, e2]; exact hh
end Go.Proofs.Ytcgncecjbkpmkaa.Tab
