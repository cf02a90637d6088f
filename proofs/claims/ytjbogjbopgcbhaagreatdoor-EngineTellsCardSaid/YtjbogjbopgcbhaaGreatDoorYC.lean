/- A row in its place: written over, or put in; the search; what is kept. find and keep. Where something is said so of what is told; what is not thrown away. What is thrown away: forget, Tick, Drop; all that is told. Tell; all that is told. -/
import Derived.Test.YtjbogjbopgcbhaaGreatDoorYB
import Derived.Laws.IdiomCopy
import Derived.Laws.EntriesVeiled
namespace Go.Proofs.YtjbogjbopgcbhaaGreatDoor.Rts
open Pre Ser
open Go.Proofs.YtjbogjbopgcbhaaGreatDoor.Src (row1 row2)
open Go.ChangeShapes Go.WideShapes Go.ChangeAt Go.RowKit
set_option maxRecDepth 8000
theorem grown_setCell (w : World) (q i : Nat) (v : Value) : w.grownBy (w.setCell ⟨q, i, none⟩ v) (some q) :=
  ⟨rfl, rfl, rfl, ((Below.refl 0 w).setCell (p := ⟨q, i, none⟩) (Nat.zero_le _) v).size, fun k _ hne => Below.heap_setCell w ⟨q, i, none⟩ v k (fun e => hne (by rw [e]))⟩
theorem splice_set {α : Type} (L : List α) (o : Nat) (x : α) (xs : List α) (h : o < L.length) : splice (L.set o x) (o + 1) xs = splice L o (x :: xs) := by
  unfold splice
  have e1 : (L.set o x).take (o + 1) = L.take o ++ [x] := by
    rw [List.take_add_one, List.take_set_of_le (Nat.le_refl _)]
    simp [h]
  rw [e1, List.drop_set_of_lt (by omega)]
  simp [Nat.add_assoc, Nat.add_comm 1]
theorem splice_none {α : Type} (L : List α) (o : Nat) : splice L o [] = L := by simp [splice]
theorem splice_in {α : Type} (X Y0 Y D L : List α) (hY : Y0.length = Y.length) (hL : L.take (X.length + Y.length + D.length) = X ++ Y0 ++ D) : (splice L X.length Y).take (X.length + Y.length + D.length) = X ++ Y ++ D := by
  obtain ⟨L', rfl⟩ : ∃ L', L = X ++ (Y0 ++ (D ++ L')) := ⟨L.drop (X.length + Y.length + D.length), by rw [← List.append_assoc, ← List.append_assoc, ← hL, List.take_append_drop]⟩
  unfold splice
  rw [List.take_left' rfl, ← List.append_assoc X Y0, List.drop_left' (by rw [List.length_append, hY]), ← List.append_assoc X, ← List.append_assoc, List.take_left' (by simp only [List.length_append])]
theorem set_list {w : World} {b : Nat} {t : TypeId} {L : List Value} (h : w.heap[b]? = some (.cells L.toArray t (0, 0))) (i : Nat) (v : Value) : (w.setCell ⟨b, i, none⟩ v).heap[b]? = some (.cells (L.set i v).toArray t (0, 0)) := by
  rw [heap_setCell_same w b i _ t v h]
  congr 2
  simp
theorem slice_inj {a b o p n m c d : Nat} (h : Value.slice (some ⟨a, o, none⟩) n c = .slice (some ⟨b, p, none⟩) m d) : a = b ∧ o = p ∧ n = m ∧ c = d := by
  injection h with h1 h2 h3; injection h1 with h1; injection h1 with h1 h4
  exact ⟨h1, h4, h2, h3⟩
theorem splice7 {α : Type} (L : List α) (o : Nat) (h : o + 7 ≤ L.length) (y0 y1 y2 y3 y4 y5 y6 : α) :
    splice L o [y0, y1, y2, y3, y4, y5, y6] = ((((((L.set o y0).set (o + 1) y1).set (o + 2) y2).set (o + 3) y3).set (o + 4) y4).set (o + 5) y5).set (o + 6) y6 := by
  rw [← splice_set L o y0 _ (by omega), ← splice_set _ (o + 1) y1 _ (by simp only [List.length_set]; omega), ← splice_set _ (o + 2) y2 _ (by simp only [List.length_set]; omega), ← splice_set _ (o + 3) y3 _ (by simp only [List.length_set]; omega), ← splice_set _ (o + 4) y4 _ (by simp only [List.length_set]; omega), ← splice_set _ (o + 5) y5 _ (by simp only [List.length_set]; omega), ← splice_set _ (o + 6) y6 _ (by simp only [List.length_set]; omega), splice_none]
theorem put7 {w : World} {b o : Nat} {t : TypeId} {L : List Value} (h : w.heap[b]? = some (.cells L.toArray t (0, 0))) (hl : o + 7 ≤ L.length) (y0 y1 y2 y3 y4 y5 y6 : Value) :
    (((((((w.setCell ⟨b, o, none⟩ y0).setCell ⟨b, o + 1, none⟩ y1).setCell ⟨b, o + 2, none⟩ y2).setCell ⟨b, o + 3, none⟩ y3).setCell ⟨b, o + 4, none⟩ y4).setCell ⟨b, o + 5, none⟩ y5).setCell ⟨b, o + 6, none⟩ y6).heap[b]? = some (.cells (splice L o [y0, y1, y2, y3, y4, y5, y6]).toArray t (0, 0)) := by
  rw [splice7 L o hl]
  exact (set_list (set_list (set_list (set_list (set_list (set_list (set_list h o y0) (o + 1) y1) (o + 2) y2) (o + 3) y3) (o + 4) y4) (o + 5) y5) (o + 6) y6)
theorem grown7 (w : World) (b o : Nat) (y0 y1 y2 y3 y4 y5 y6 : Value) :
    w.grownBy (((((((w.setCell ⟨b, o, none⟩ y0).setCell ⟨b, o + 1, none⟩ y1).setCell ⟨b, o + 2, none⟩ y2).setCell ⟨b, o + 3, none⟩ y3).setCell ⟨b, o + 4, none⟩ y4).setCell ⟨b, o + 5, none⟩ y5).setCell ⟨b, o + 6, none⟩ y6) (some b) :=
  (((((((Rts.grown_setCell w b o y0).trans (Rts.grown_setCell _ b (o + 1) y1)).trans (Rts.grown_setCell _ b (o + 2) y2)).trans (Rts.grown_setCell _ b (o + 3) y3)).trans (Rts.grown_setCell _ b (o + 4) y4)).trans (Rts.grown_setCell _ b (o + 5) y5)).trans (Rts.grown_setCell _ b (o + 6) y6))
theorem EOwn.put {w : World} {B g0 n cp : Nat} {rs : List E} (h : EOwn w B (.slice (some ⟨g0, 0, none⟩) n cp) rs) {k : Nat} (hk : k < rs.length) (r : E) {y0 y1 y2 y3 y4 y5 y6 : Value} (hr : r.cl = [y0, y1, y2, y3, y4, y5, y6]) :
    EOwn (((((((w.setCell ⟨g0, k * 7, none⟩ y0).setCell ⟨g0, k * 7 + 1, none⟩ y1).setCell ⟨g0, k * 7 + 2, none⟩ y2).setCell ⟨g0, k * 7 + 3, none⟩ y3).setCell ⟨g0, k * 7 + 4, none⟩ y4).setCell ⟨g0, k * 7 + 5, none⟩ y5).setCell ⟨g0, k * 7 + 6, none⟩ y6) B (.slice (some ⟨g0, 0, none⟩) n cp) (rs.set k r) := by
  rcases h.2 with ⟨hv, _⟩ | ⟨g, cap, cur, hv, hB, hg, h1, h2, h3, h4⟩
  · cases hv
  · obtain ⟨e1, _, e2, e3⟩ := slice_inj hv
    clear hv
    subst e1 e2 e3
    have hg' : w.heap[g0]? = some (.cells cur.toList.toArray 173 (0, 0)) := hg
    have hfit : k * 7 + 7 ≤ cur.toList.length := by rw [Array.length_toList, h3]; omega
    have h10 := put7 hg' hfit y0 y1 y2 y3 y4 y5 y6
    have hls : (splice cur.toList (k * 7) [y0, y1, y2, y3, y4, y5, y6]).length = cp * 7 := by
      rw [← hr, length_splice _ _ _ (by rw [rcl_len]; exact hfit), Array.length_toList, h3]
    clear hg hg'
    generalize ((((((w.setCell _ _).setCell _ _).setCell _ _).setCell _ _).setCell _ _).setCell _ _).setCell _ _ = w9 at h10 ⊢
    rw [← hr] at h10 hls
    refine ⟨by rw [rflat_len], .inr ⟨g0, cp, _, by rw [List.length_set], hB, h10, by rw [List.length_set]; exact h1, h2, by rw [List.size_toArray, hls], ?_⟩⟩
    · have hX : ((rs.take k).flatMap E.cl).length = k * 7 := by rw [rflat_len, List.length_take]; omega
      have hD : ((rs.drop (k + 1)).flatMap E.cl).length = (rs.length - (k + 1)) * 7 := by rw [rflat_len, List.length_drop]
      have hs : rs.set k r = rs.take k ++ r :: rs.drop (k + 1) := List.set_eq_take_append_cons_drop .. |>.trans (by rw [if_pos hk])
      have ho : rs.flatMap E.cl = (rs.take k).flatMap E.cl ++ rs[k].cl ++ (rs.drop (k + 1)).flatMap E.cl := by
        conv => lhs; rw [← List.take_append_drop k rs, List.drop_eq_getElem_cons hk]
        simp only [List.flatMap_append, List.flatMap_cons, List.append_assoc]
      have := splice_in ((rs.take k).flatMap E.cl) rs[k].cl r.cl ((rs.drop (k + 1)).flatMap E.cl) cur.toList rfl (by rw [hX, hD, rcl_len, ← ho, ← h4]; congr 1; omega)
      rw [hX, hD, rcl_len] at this
      rw [hs, List.flatMap_append, List.flatMap_cons, ← List.append_assoc, ← this]
      simp only [List.length_append, List.length_cons, List.length_take, List.length_drop]
      congr 1
      omega
theorem ins_any (w : World) (B : Nat) (v : Value) (rs : List E) (r : E) (i vb : Nat) (hown : EOwn w B v rs) (hvb : w.heap[vb]? = some (.cells r.cl.toArray 173 (0, 0))) (hne : v.ownBlock ≠ some vb) (hi : i ≤ rs.length) (hlen : rs.length ≤ 1000) (hB : B ≤ w.heap.size) :
    Calls Tryz.prog 156 #[v, .int .i64 (i : Int), .slice (some ⟨vb, 0, none⟩) 1 1] w (InsSaid w B v (rs.take i ++ r :: rs.drop i)) := by
  rcases Nat.lt_or_eq_of_le hi with h | h
  · rcases hown.2 with ⟨_, h0⟩ | ⟨g, cap, cur, rfl, hBg, hg, h1, h2, h3, h4⟩
    · have : rs.length = 0 := h0; omega
    · have hg' : w.heap[g]? = some (.cells cur.toList.toArray 173 (0, 0)) := hg
      by_cases hroom : rs.length + 1 ≤ cap
      · exact ins_room w B g cap i cur.toList rs r vb hg' hBg h2 (by simpa using h3) h4 hvb (fun e => hne (by rw [e]; rfl)) h hlen hroom
      · exact ins_grow w B g cap i cur.toList rs r vb hg' hB h4 hvb h hlen h1 (by omega)
  · subst h
    rw [List.take_length, List.drop_length]
    exact ins_end w B v rs r vb hown hvb hlen hB
end Go.Proofs.YtjbogjbopgcbhaaGreatDoor.Rts
namespace Go.Proofs.YtjbogjbopgcbhaaGreatDoor.Rts
open Pre Ser
open Go.Proofs.YtjbogjbopgcbhaaGreatDoor.Src (row1 row2)
open Go.ChangeShapes Go.WideShapes Go.ChangeAt Go.RowKit
set_option maxRecDepth 8000
set_option maxHeartbeats 1000000 in
theorem find_any (w : World) (lo q : Nat) (L : List E) (v : Value) (h : RtsAt lo w q L v) (hr : Rising L) (hL : ∀ e ∈ L, e.Ok) (hlen : L.length ≤ 1000) (pb yb a n b : Nat) (hn : n < 256) (hb : b < 16)
    (hp : w.heap[pb]? = some (.cells #[.int .u32 (a : Int), .int .u8 (n : Int)] 30 (0, 0))) (hy : w.heap[yb]? = some (.cells #[.int .i64 (b : Int)] 3 (0, 0))) :
    Calls Tryz.prog 155 #[.pointer (some ⟨q, 0, none⟩), .func (.func 122) #[] #[.pointer (some ⟨pb, 0, none⟩), .pointer (some ⟨yb, 0, none⟩)]] w fun en w' => en = .returned (.tuple #[.int .i64 ((pos (key a n b) L : Nat) : Int), .bool (there (key a n b) L)]) ∧ Below w.heap.size w w' := by
  have B1 := ((Below.refl w.heap.size w).alloc (Nat.le_refl _) (.cells #[.pointer (some ⟨q, 0, none⟩)] 90)).alloc (by simp) (.cells #[.func (.func 122) #[] #[.pointer (some ⟨pb, 0, none⟩), .pointer (some ⟨yb, 0, none⟩)]] 187)
  have r0 : ((w.alloc (.cells #[.pointer (some ⟨q, 0, none⟩)] 90)).alloc (.cells #[.func (.func 122) #[] #[.pointer (some ⟨pb, 0, none⟩), .pointer (some ⟨yb, 0, none⟩)]] 187)).heap[w.heap.size]? = some (.cells #[.pointer (some ⟨q, 0, none⟩)] 90 (0, 0)) := (heap_alloc_old _ (.cells #[.func (.func 122) #[] #[.pointer (some ⟨pb, 0, none⟩), .pointer (some ⟨yb, 0, none⟩)]] 187) (by simp)).trans (heap_alloc_new w (.cells #[.pointer (some ⟨q, 0, none⟩)] 90))
  have r1 := Src.heap_new1 w (.cells #[.pointer (some ⟨q, 0, none⟩)] 90) (.cells #[.func (.func 122) #[] #[.pointer (some ⟨pb, 0, none⟩), .pointer (some ⟨yb, 0, none⟩)]] 187)
  obtain ⟨W, hW⟩ : ∃ W, W = (w.alloc (.cells #[.pointer (some ⟨q, 0, none⟩)] 90)).alloc (.cells #[.func (.func 122) #[] #[.pointer (some ⟨pb, 0, none⟩), .pointer (some ⟨yb, 0, none⟩)]] 187) := ⟨_, rfl⟩
  rw [← hW] at B1 r0 r1
  have hc := sfind_any W L (key a n b) (w.heap.size + 1) w.heap.size (fun k => if hk : k < L.length then -(ordV L[k] a n b) else 0) hlen hr
    (fun W' hB k hk => by
      have := find1_any W' lo q L v ((h.kept B1).kept hB) k hk hlen (w.heap.size + 1) w.heap.size pb yb a n b (brow hB r1) (brow hB r0) (brow hB (brow B1 hp)) (brow hB (brow B1 hy))
      simp only [dif_pos hk]
      exact this)
    (fun k hk => by
      have := hL _ (List.getElem_mem hk)
      simp only [dif_pos hk]
      rw [← ordV_lt this.n this.b hn hb]
      omega)
    (fun k hk => by
      have := hL _ (List.getElem_mem hk)
      simp only [dif_pos hk]
      rw [← ordV_eq this.n this.b hn hb]
      omega)
  obtain ⟨A, c, hv, -, -⟩ := h.own.form
  have HQ := row1 (brow B1 h.row)
  obtain ⟨x, hx⟩ : ∃ x, x = pos (key a n b) L := ⟨_, rfl⟩
  obtain ⟨y, hy'⟩ : ∃ y, y = there (key a n b) L := ⟨_, rfl⟩
  rw [← hx, ← hy'] at hc ⊢
  rw [hv] at HQ
  have HC := Lib.hid (And.intro hc B1)
  rw [hW] at r0 HQ
  have HWE := Lib.hid hW
  obtain ⟨q0, -⟩ := HQ
  obtain ⟨t0, -⟩ := row1 r0
  have r1' := r1
  rw [hW] at r1'
  obtain ⟨s0, -⟩ := row1 r1'
  clear hc B1 r0 r1 hW hx hy' hp hy h hr hL hv hlen hn hb r1'
  go_enter Tryz.func155, Tryz.ntmps155
  go_wp2_with (go_at_call 168; rw [← HWE.out]; (with_reducible refine HC.out.1.mono ?_); rintro en w3 ⟨rfl, B3⟩; have H3 := Lib.hid (HC.out.2.trans (B3.mono HC.out.2.size)); clear B3)
  exact bodyPost_ret (v := .tuple #[.int .i64 (x : Int), .bool y]) (by simp [results, Tryz.results155, go_sem]) rfl ⟨rfl, H3.out⟩
def MvSaid (lo : Nat) (w : World) (q : Nat) (v : Value) (L' : List E) (ans : Ending) (e : Ending) (w' : World) : Prop :=
  e = ans ∧ ∃ v', RtsAt lo w' q L' v' ∧ Fr (Xr q v) w w' ∧ Later w v v'
theorem own_lt {w : World} {B : Nat} {v : Value} {es : List E} (h : EOwn w B v es) {b : Nat} (e : v.ownBlock = some b) : B ≤ b ∧ b < w.heap.size := by
  rcases h.2 with ⟨hv, -⟩ | ⟨g, cap, cur, hv, hB, hg, -⟩
  · rw [hv] at e; cases e
  · rw [hv] at e
    have e : some g = some b := e
    injection e with e; subst e
    exact ⟨hB, (Array.getElem?_eq_some_iff.1 hg).1⟩
structure KT (lo : Nat) (w W : World) (q : Nat) (L : List E) (v : Value) (e : E) : Prop where
  b : Below w.heap.size w W
  r : RtsAt lo W q L v
  x : W.heap[w.heap.size]? = some (.cells #[.int .u32 (e.a : Int), .int .u8 (e.n : Int), .int .i64 (e.b : Int), .int .i64 (e.d : Int), .int .u16 (e.s : Int), .int .u16 (e.m : Int), .int .u64 (e.u : Int)] 173 (0, 0))
theorem KT.step {lo : Nat} {w W W' : World} {q : Nat} {L : List E} {v : Value} {e : E} (h : KT lo w W q L v e) (B : Below W.heap.size W W') : KT lo w W' q L v e :=
  ⟨h.b.trans (B.mono h.b.size), h.r.kept B, brow B h.x⟩
theorem KT.start {lo : Nat} {w : World} {q : Nat} {L : List E} {v : Value} {e : E} (h : RtsAt lo w q L v) : KT lo w (w.alloc (.cells #[.int .u32 (e.a : Int), .int .u8 (e.n : Int), .int .i64 (e.b : Int), .int .i64 (e.d : Int), .int .u16 (e.s : Int), .int .u16 (e.m : Int), .int .u64 (e.u : Int)] 173)) q L v e :=
  have B1 := (Below.refl w.heap.size w).alloc (Nat.le_refl _) (.cells #[.int .u32 (e.a : Int), .int .u8 (e.n : Int), .int .i64 (e.b : Int), .int .i64 (e.d : Int), .int .u16 (e.s : Int), .int .u16 (e.m : Int), .int .u64 (e.u : Int)] 173)
  ⟨B1, h.kept B1, heap_alloc_new w (.cells #[.int .u32 (e.a : Int), .int .u8 (e.n : Int), .int .i64 (e.b : Int), .int .i64 (e.d : Int), .int .u16 (e.s : Int), .int .u16 (e.m : Int), .int .u64 (e.u : Int)] 173)⟩
set_option maxHeartbeats 1000000 in
theorem keep_there (w : World) (lo q : Nat) (L : List E) (v : Value) (h : RtsAt lo w q L v) (hr : Rising L) (hL : ∀ e ∈ L, e.Ok) (hlen : L.length ≤ 200) (e : E) (he : e.Ok) (pb yb : Nat) (hp : w.heap[pb]? = some (.cells #[.int .u32 (e.a : Int), .int .u8 (e.n : Int)] 30 (0, 0))) (hy : w.heap[yb]? = some (.cells #[.int .i64 (e.b : Int)] 3 (0, 0))) (ht : there e.key L = true) :
    Calls Tryz.prog 124 #[.pointer (some ⟨q, 0, none⟩), .agg #[.int .u32 (e.a : Int), .int .u8 (e.n : Int), .int .i64 (e.b : Int), .int .i64 (e.d : Int), .int .u16 (e.s : Int), .int .u16 (e.m : Int), .int .u64 (e.u : Int)], .func (.func 122) #[] #[.pointer (some ⟨pb, 0, none⟩), .pointer (some ⟨yb, 0, none⟩)]] w (MvSaid lo w q v (putE L e) (.returned (.int .i64 0))) := by
  have K0 := KT.start (e := e) h
  have hf := find_any _ lo q L v K0.r hr hL (by omega) pb yb e.a e.n e.b he.n he.b (brow K0.b hp) (brow K0.b hy)
  rw [show key e.a e.n e.b = e.key from rfl, ht] at hf
  obtain ⟨W, hW⟩ : ∃ W, W = w.alloc (.cells #[.int .u32 (e.a : Int), .int .u8 (e.n : Int), .int .i64 (e.b : Int), .int .i64 (e.d : Int), .int .u16 (e.s : Int), .int .u16 (e.m : Int), .int .u64 (e.u : Int)] 173) := ⟨_, rfl⟩
  rw [← hW] at K0 hf
  have HWE := Lib.hid hW
  clear hW hp hy
  have hpl : pos e.key L < L.length := by
    unfold there at ht
    split at ht
    · rename_i h2; exact (List.getElem?_eq_some_iff.1 h2).1
    · cases ht
  have hput : putE L e = L.set (pos e.key L) e := by
    unfold putE
    rw [ht, List.set_eq_take_append_cons_drop, if_pos hpl]; rfl
  rw [hput]
  obtain ⟨x, hx⟩ : ∃ x, x = pos e.key L := ⟨_, rfl⟩
  rw [← hx] at hpl hf ⊢
  clear hput ht hr hL he hx
  obtain ⟨g, c, cur, hv, hBg, hg, h4, h5, -, -, -⟩ := h.own.rows (by omega)
  have hgl := (Array.getElem?_eq_some_iff.1 hg).1
  have hgq : ¬ q = g := fun e => h.ne (by rw [hv, e]; rfl)
  subst hv
  obtain ⟨n, hn⟩ : ∃ n, n = L.length := ⟨_, rfl⟩
  have HF := Lib.hid hf
  have HK0 := Lib.hid K0
  rw [← hn] at h4 hlen
  have hxn : x < n := by omega
  have HG := Lib.hid (And.intro hpl (And.intro hgq (And.intro (show ¬ w.heap.size = g by omega) (And.intro hn (And.intro h.lt hgl)))))
  clear hf K0 hg h hpl hgq hn hgl
  go_enter Tryz.func124, Tryz.ntmps124
  go_upto_region 3 with (go_at_call 155; rw [← HWE.out]; (with_reducible refine HF.out.mono ?_); rintro en w3 ⟨rfl, B3⟩; have HK := Lib.hid (HK0.out.step B3); clear B3)
  rw [← HG.out.2.2.2.1] at HK
  have HE : Hid (EAt w3.drew g (x * 7) (L[x]'HG.out.1) ∧ g < w3.drew.heap.size ∧ ∀ i, w3.drew.frozen? ⟨g, i, none⟩ = false) := by
    obtain ⟨g', c', cur, hv, hBg, hg, h4, h5, -, -, hE⟩ := HK.out.r.own.rows (by have := HG.out.1; omega)
    obtain ⟨rfl, -, -, -⟩ := slice_inj hv
    exact ⟨(hE x HG.out.1).keep (w' := w3.drew) rfl, (Array.getElem?_eq_some_iff.1 hg).1, fun i => frozen_of_row w3.drew g i _ 173 hg⟩
  have HO := Lib.hid (HK.out.r.own.kept ((Below.refl _ w3).drew))
  have hFd : Fr (fun k => k = g) w3 w3.drew := Fr.of ((Below.refl _ w3).drew)
  refine wp_region_noPanic ?_
  refine wp_region_held_drew (S := fun y : World => Fr (fun k => k = g) w3 y) (by kernel_rfl) hFd (fun hHeld => ?_)
  generalize w3.drew = wd at *
  refine wpAnyH_take (i := 0) (oi := ⟨some 16, .move (.tmp 0), 90, "routes.go:61", #[], none⟩) (v := .pointer (some ⟨q, 0, none⟩)) rfl (by kernel_rfl) (by kernel_rfl) (by kernel_rfl) (fun _ _ _ h => h) (Or.inl ⟨by rfl, fun w hSw => by go_simp⟩) (by assumption) ?_
  try simp only [Act.put, List.setIfInBounds_toArray, List.set_cons_zero, List.set_cons_succ]
  refine wpAnyH_take (i := 1) (oi := ⟨some 17, .nilCheck (.tmp 16), 0, "routes.go:61", #[⟨0, .data⟩], none⟩) (v := .pointer (some ⟨q, 0, none⟩)) rfl (by kernel_rfl) (by kernel_rfl) (by kernel_rfl) (fun _ _ _ h => h) (Or.inl ⟨by rfl, fun w hSw => by go_simp⟩) (by assumption) ?_
  try simp only [Act.put, List.setIfInBounds_toArray, List.set_cons_zero, List.set_cons_succ]
  refine wpAnyH_take (i := 2) (oi := ⟨some 18, .fieldAddr 177 (.tmp 17) 0, 0, "routes.go:61", #[⟨1, .data⟩], none⟩) (v := .pointer (some ⟨q, 0, none⟩)) rfl (by kernel_rfl) (by kernel_rfl) (by kernel_rfl) (fun _ _ _ h => h) (Or.inl ⟨by rfl, fun w hSw => by go_simp⟩) (by assumption) ?_
  try simp only [Act.put, List.setIfInBounds_toArray, List.set_cons_zero, List.set_cons_succ]
  refine wpAnyH_take (i := 3) (oi := ⟨some 19, .load 149 (.tmp 18), 149, "routes.go:61", #[⟨2, .data⟩], none⟩) (v := .slice (some ⟨g, 0, none⟩) n c) rfl (by kernel_rfl) (by kernel_rfl) (by kernel_rfl) (fun _ _ _ h => h) (Or.inl ⟨by rfl, fun w hSw => by obtain ⟨q0, -⟩ := row1 (hSw.row HK.out.r.row HG.out.2.1); go_simp⟩) (by assumption) ?_
  try simp only [Act.put, List.setIfInBounds_toArray, List.set_cons_zero, List.set_cons_succ]
  refine wpAnyH_take (i := 4) (oi := ⟨some 20, .move (.tmp 7), 3, "routes.go:61", #[], none⟩) (v := .int .i64 (x : Int)) rfl (by kernel_rfl) (by kernel_rfl) (by kernel_rfl) (fun _ _ _ h => h) (Or.inl ⟨by rfl, fun w hSw => by go_simp⟩) (by assumption) ?_
  try simp only [Act.put, List.setIfInBounds_toArray, List.set_cons_zero, List.set_cons_succ]
  refine wpAnyH_take (i := 5) (oi := ⟨some 21, .load 173 (.tmp 4), 173, "routes.go:61", #[], none⟩) (v := .agg #[.int .u32 (e.a : Int), .int .u8 (e.n : Int), .int .i64 (e.b : Int), .int .i64 (e.d : Int), .int .u16 (e.s : Int), .int .u16 (e.m : Int), .int .u64 (e.u : Int)]) rfl (by kernel_rfl) (by kernel_rfl) (by kernel_rfl) (fun _ _ _ h => h) (Or.inl ⟨by rfl, fun w hSw => by obtain ⟨p0, p1, p2, p3, p4, p5, p6⟩ := row7 (hSw.row HK.out.x HG.out.2.2.1); go_simp⟩) (by assumption) ?_
  try simp only [Act.put, List.setIfInBounds_toArray, List.set_cons_zero, List.set_cons_succ]
  refine wpAnyH_take (i := 6) (oi := ⟨some 22, .indexAddr 149 (.tmp 19) (.tmp 20), 0, "routes.go:61", #[⟨3, .data⟩, ⟨4, .data⟩, ⟨0, .phase⟩, ⟨1, .phase⟩, ⟨2, .phase⟩, ⟨3, .phase⟩, ⟨4, .phase⟩, ⟨5, .phase⟩], none⟩) (v := .pointer (some ⟨g, x * 7, none⟩)) rfl (by kernel_rfl) (by kernel_rfl) (by kernel_rfl) (fun _ _ _ h => h) (Or.inl ⟨by rfl, fun w hSw => by go_simp⟩) (by assumption) ?_
  try simp only [Act.put, List.setIfInBounds_toArray, List.set_cons_zero, List.set_cons_succ]
  refine wpAnyH_ready (rs := [7]) (by kernel_rfl) (by simp) ?_
  refine AllReadyH.cons (o := ⟨none, .store 173 (.tmp 22) (.tmp 21), 0, "routes.go:61", #[⟨6, .data⟩, ⟨5, .data⟩, ⟨0, .phase⟩, ⟨1, .phase⟩, ⟨2, .phase⟩, ⟨3, .phase⟩, ⟨4, .phase⟩, ⟨5, .phase⟩], none⟩) rfl (fun K hK => ?_) AllReadyH.nil
  obtain ⟨c0, c1, c2, c3, c4, c5, c6⟩ := HE.out.1
  have hfz := HE.out.2.2
  have hgl := HE.out.2.1
  go_simp
  refine hK.out _ _ (hHeld.trans (Fr.grown (grown7 wd g (x * 7) _ _ _ _ _ _ _) (fun k e => (Option.some.inj e).symm))) (fun hHeld2 => ?_)
  clear hK K hHeld
  have hHeld := hHeld2
  clear hHeld2
  try simp only [Act.put, List.setIfInBounds_toArray, List.set_cons_zero, List.set_cons_succ]
  clear c0 c1 c2 c3 c4 c5 c6 hfz hgl
  have HP := Lib.hid (And.intro (EOwn.put HO.out HG.out.1 e (by rfl)) hHeld)
  clear hHeld hFd
  generalize (((((((wd.setCell _ _).setCell _ _).setCell _ _).setCell _ _).setCell _ _).setCell _ _).setCell _ _) = w5 at *
  refine wpAnyH_done (by kernel_rfl) ?_ _
  try unfold NoPanic
  go_wp2
  go_ret
  refine ⟨rfl, .slice (some ⟨g, 0, none⟩) n c, ⟨HP.out.2.row HK.out.r.row HG.out.2.1, HP.out.1, HK.out.r.ne, HK.out.r.le⟩, ?_, Or.inl (by rw [HG.out.2.2.2.1])⟩
  exact (Fr.of HK.out.b).trans (HP.out.2.mono fun k _ e => Or.inr (by rw [e]; rfl))
set_option maxHeartbeats 1000000 in
theorem keep_new (w : World) (lo q : Nat) (L : List E) (v : Value) (h : RtsAt lo w q L v) (hr : Rising L) (hL : ∀ e ∈ L, e.Ok) (hlen : L.length ≤ 200) (e : E) (he : e.Ok) (pb yb : Nat) (hp : w.heap[pb]? = some (.cells #[.int .u32 (e.a : Int), .int .u8 (e.n : Int)] 30 (0, 0))) (hy : w.heap[yb]? = some (.cells #[.int .i64 (e.b : Int)] 3 (0, 0))) (ht : there e.key L = false) :
    Calls Tryz.prog 124 #[.pointer (some ⟨q, 0, none⟩), .agg #[.int .u32 (e.a : Int), .int .u8 (e.n : Int), .int .i64 (e.b : Int), .int .i64 (e.d : Int), .int .u16 (e.s : Int), .int .u16 (e.m : Int), .int .u64 (e.u : Int)], .func (.func 122) #[] #[.pointer (some ⟨pb, 0, none⟩), .pointer (some ⟨yb, 0, none⟩)]] w (MvSaid lo w q v (putE L e) (.returned (.int .i64 0))) := by
  have K0 := KT.start (e := e) h
  have hf := find_any _ lo q L v K0.r hr hL (by omega) pb yb e.a e.n e.b he.n he.b (brow K0.b hp) (brow K0.b hy)
  rw [show key e.a e.n e.b = e.key from rfl, ht] at hf
  obtain ⟨W, hW⟩ : ∃ W, W = w.alloc (.cells #[.int .u32 (e.a : Int), .int .u8 (e.n : Int), .int .i64 (e.b : Int), .int .i64 (e.d : Int), .int .u16 (e.s : Int), .int .u16 (e.m : Int), .int .u64 (e.u : Int)] 173) := ⟨_, rfl⟩
  rw [← hW] at K0 hf
  have HWE := Lib.hid hW
  clear hW hp hy
  have hput : L.take (pos e.key L) ++ e :: L.drop (pos e.key L) = putE L e := by
    unfold putE
    rw [ht]; rfl
  have hpl := pos_le e.key L
  obtain ⟨x, hx⟩ : ∃ x, x = pos e.key L := ⟨_, rfl⟩
  rw [← hx] at hpl hf hput
  clear ht hr hL he hx
  obtain ⟨A, c, hv, -, -⟩ := h.own.form
  have HF := Lib.hid hf
  have HK0 := Lib.hid K0
  have HG := Lib.hid (And.intro h.lt (And.intro (show ¬ (w.heap.size = q ∨ v.ownBlock = some w.heap.size) from fun e => by
    rcases e with e | e
    · have := h.lt; omega
    · have := (own_lt h.own e).2; omega) (And.intro hpl (And.intro hlen (And.intro hput (Nat.le_refl 0))))))
  have hlt : ¬ (256 : Int) ≤ (L.length : Int) := by omega
  clear hf K0 h hpl hput hlen
  go_enter Tryz.func124, Tryz.ntmps124
  go_upto_region 5 with (go_at_call 155; rw [← HWE.out]; (with_reducible refine HF.out.mono ?_); rintro en w3 ⟨rfl, B3⟩; have HK := Lib.hid (HK0.out.step B3); clear B3)
  obtain ⟨q0, -⟩ := row1 HK.out.r.row
  rw [hv] at q0
  go_upto_region 7 with (fail)
  clear q0 hlt
  have HQ := Lib.hid (And.intro (HK.out.step ((Below.refl _ w3).drew)) hv)
  clear hv
  have hFd : Fr (Xr q v) w3 w3.drew := Fr.of ((Below.refl _ w3).drew)
  have hHeld0 := Lib.hid hFd
  refine wp_region_noPanic ?_
  refine wp_region_held_drew (S := fun y : World => Fr (Xr q v) w3 y) (by kernel_rfl) hFd (fun hHeld => ?_)
  generalize w3.drew = wd at *
  refine wpAnyH_take (i := 0) (oi := ⟨some 29, .move (.tmp 0), 90, "routes.go:67", #[], none⟩) (v := .pointer (some ⟨q, 0, none⟩)) rfl (by kernel_rfl) (by kernel_rfl) (by kernel_rfl) (fun _ _ _ h => h) (Or.inl ⟨by rfl, fun w hSw => by go_simp⟩) (by assumption) ?_
  try simp only [Act.put, List.setIfInBounds_toArray, List.set_cons_zero, List.set_cons_succ]
  refine wpAnyH_take (i := 1) (oi := ⟨some 30, .move (.tmp 0), 90, "routes.go:67", #[], none⟩) (v := .pointer (some ⟨q, 0, none⟩)) rfl (by kernel_rfl) (by kernel_rfl) (by kernel_rfl) (fun _ _ _ h => h) (Or.inl ⟨by rfl, fun w hSw => by go_simp⟩) (by assumption) ?_
  try simp only [Act.put, List.setIfInBounds_toArray, List.set_cons_zero, List.set_cons_succ]
  refine wpAnyH_take (i := 2) (oi := ⟨some 31, .nilCheck (.tmp 30), 0, "routes.go:67", #[⟨1, .data⟩], none⟩) (v := .pointer (some ⟨q, 0, none⟩)) rfl (by kernel_rfl) (by kernel_rfl) (by kernel_rfl) (fun _ _ _ h => h) (Or.inl ⟨by rfl, fun w hSw => by go_simp⟩) (by assumption) ?_
  try simp only [Act.put, List.setIfInBounds_toArray, List.set_cons_zero, List.set_cons_succ]
  refine wpAnyH_take (i := 3) (oi := ⟨some 32, .fieldAddr 177 (.tmp 31) 0, 0, "routes.go:67", #[⟨2, .data⟩], none⟩) (v := .pointer (some ⟨q, 0, none⟩)) rfl (by kernel_rfl) (by kernel_rfl) (by kernel_rfl) (fun _ _ _ h => h) (Or.inl ⟨by rfl, fun w hSw => by go_simp⟩) (by assumption) ?_
  try simp only [Act.put, List.setIfInBounds_toArray, List.set_cons_zero, List.set_cons_succ]
  refine wpAnyH_take (i := 5) (oi := ⟨some 34, .move (.tmp 7), 3, "routes.go:67", #[], none⟩) (v := .int .i64 (x : Int)) rfl (by kernel_rfl) (by kernel_rfl) (by kernel_rfl) (fun _ _ _ h => h) (Or.inl ⟨by rfl, fun w hSw => by go_simp⟩) (by assumption) ?_
  try simp only [Act.put, List.setIfInBounds_toArray, List.set_cons_zero, List.set_cons_succ]
  refine wpAnyH_take (i := 6) (oi := ⟨some 35, .load 173 (.tmp 4), 173, "routes.go:67", #[], none⟩) (v := .agg #[.int .u32 (e.a : Int), .int .u8 (e.n : Int), .int .i64 (e.b : Int), .int .i64 (e.d : Int), .int .u16 (e.s : Int), .int .u16 (e.m : Int), .int .u64 (e.u : Int)]) rfl (by kernel_rfl) (by kernel_rfl) (by kernel_rfl) (fun _ _ _ h => h) (Or.inl ⟨by rfl, fun w hSw => by obtain ⟨p0, p1, p2, p3, p4, p5, p6⟩ := row7 (hSw.row HK.out.x HG.out.2.1); go_simp⟩) (by assumption) ?_
  try simp only [Act.put, List.setIfInBounds_toArray, List.set_cons_zero, List.set_cons_succ]
  refine wpAnyH_ready (rs := [4, 7]) (by kernel_rfl) (by simp) ?_
  refine (AllReadyH.cons (o := ⟨some 33, .load 149 (.tmp 32), 149, "routes.go:67", #[⟨3, .data⟩], none⟩) rfl (fun K hK => ?_) (AllReadyH.cons (o := ⟨some 36, .buildSlice 149 1 #[(0, .tmp 35)], 149, "routes.go:67", #[⟨6, .data⟩], none⟩) rfl (fun K hK => ?_) AllReadyH.nil))
  · have hq := HQ.out
    obtain ⟨q0, -⟩ := row1 (hq.2 ▸ hq.1.r.row)
    go_simp
    refine hK.out _ _ (hHeld) (fun hHeld2 => ?_)
    clear hK K hHeld
    have hHeld := hHeld2
    clear hHeld2
    try simp only [Act.put, List.setIfInBounds_toArray, List.set_cons_zero, List.set_cons_succ]
    clear q0 hq
    refine wpAnyH_ready (rs := [7]) (by kernel_rfl) (by simp) ?_
    refine (AllReadyH.cons (o := ⟨some 36, .buildSlice 149 1 #[(0, .tmp 35)], 149, "routes.go:67", #[⟨6, .data⟩], none⟩) rfl (fun K hK => ?_) AllReadyH.nil)
    go_simp
    refine hK.out _ _ (hHeld.step ((Below.refl _ _).alloc (Nat.le_refl _) (.cells #[.int .u32 (e.a : Int), .int .u8 (e.n : Int), .int .i64 (e.b : Int), .int .i64 (e.d : Int), .int .u16 (e.s : Int), .int .u16 (e.m : Int), .int .u64 (e.u : Int)] 173))) (fun hHeld2 => ?_)
    clear hK K hHeld
    have hHeld := hHeld2
    clear hHeld2
    try simp only [Act.put, List.setIfInBounds_toArray, List.set_cons_zero, List.set_cons_succ]
    have HA := Lib.hid (And.intro (HQ.out.1.step ((Below.refl _ _).alloc (Nat.le_refl _) (.cells #[.int .u32 (e.a : Int), .int .u8 (e.n : Int), .int .i64 (e.b : Int), .int .i64 (e.d : Int), .int .u16 (e.s : Int), .int .u16 (e.m : Int), .int .u64 (e.u : Int)] 173))) (heap_alloc_new wd (.cells #[.int .u32 (e.a : Int), .int .u8 (e.n : Int), .int .i64 (e.b : Int), .int .i64 (e.d : Int), .int .u16 (e.s : Int), .int .u16 (e.m : Int), .int .u64 (e.u : Int)] 173)))
    have hzn : ¬ (wd.heap.size < w3.heap.size) := by have := hHeld0.out.size; omega
    generalize wd.alloc _ = wa at *
    generalize wd.heap.size = z at *
    refine wpAnyH_ready (rs := [8]) (by kernel_rfl) (by simp) ?_
    refine AllReadyH.cons (o := ⟨some 37, .call ⟨.value (.func 156), #[.tmp 33, .tmp 34, .tmp 36], #[149, 3, 149]⟩, 149, "routes.go:67", #[⟨4, .data⟩, ⟨5, .data⟩, ⟨7, .data⟩], none⟩) rfl (fun K hK => ?_) AllReadyH.nil
    have hz : v.ownBlock ≠ some z := fun e => hzn (own_lt HK.out.r.own e).2
    have c67 := ins_any wa lo v L e x z HA.out.1.r.own HA.out.2 hz HG.out.2.2.1 (by have := HG.out.2.2.2.1; omega) (by have := HA.out.1.r.le; have := HA.out.1.r.lt; omega)
    rw [HG.out.2.2.2.2.1] at c67
    have c67 : Calls Tryz.prog 156 #[.slice A L.length c, .int .i64 (x : Int), .slice (some ⟨z, 0, none⟩) 1 1] wa (InsSaid wa lo v (putE L e)) := by rw [← HQ.out.2]; exact c67
    go_simp
    with_reducible refine c67.mono ?_
    rintro en w5 ⟨v', rfl, O5, G5, L5⟩
    obtain ⟨A5, c5, hv5, -, -⟩ := O5.form
    have H5 := Lib.hid (And.intro O5 (And.intro G5 (And.intro L5 hv5)))
    clear c67 O5 L5 hz
    refine hK.out _ _ (hHeld.trans (Fr.grown G5 (fun k e => Or.inr e))) (fun hHeld2 => ?_)
    clear hK K hHeld G5
    have hHeld := hHeld2
    clear hHeld2
    try simp only [Act.put, List.setIfInBounds_toArray, List.set_cons_zero, List.set_cons_succ]
    have hrow : w5.heap[q]? = some (.cells #[v] 177 (0, 0)) := (H5.out.2.1.block q HA.out.1.r.lt (fun e => HK.out.r.ne e.symm)).trans HA.out.1.r.row
    have HR5 := Lib.hid hrow
    clear hrow
    subst hv5
    refine wpAnyH_take (i := 9) (oi := ⟨some 38, .nilCheck (.tmp 29), 0, "routes.go:67", #[⟨0, .data⟩, ⟨0, .phase⟩, ⟨1, .phase⟩, ⟨2, .phase⟩, ⟨3, .phase⟩, ⟨4, .phase⟩, ⟨5, .phase⟩, ⟨6, .phase⟩, ⟨7, .phase⟩, ⟨8, .phase⟩], none⟩) (v := .pointer (some ⟨q, 0, none⟩)) rfl (by kernel_rfl) (by kernel_rfl) (by kernel_rfl) (fun _ _ _ h => h) (Or.inl ⟨by rfl, fun w hSw => by go_simp⟩) (by assumption) ?_
    try simp only [Act.put, List.setIfInBounds_toArray, List.set_cons_zero, List.set_cons_succ]
    refine wpAnyH_take (i := 10) (oi := ⟨some 39, .fieldAddr 177 (.tmp 38) 0, 0, "routes.go:67", #[⟨9, .data⟩, ⟨0, .phase⟩, ⟨1, .phase⟩, ⟨2, .phase⟩, ⟨3, .phase⟩, ⟨4, .phase⟩, ⟨5, .phase⟩, ⟨6, .phase⟩, ⟨7, .phase⟩, ⟨8, .phase⟩], none⟩) (v := .pointer (some ⟨q, 0, none⟩)) rfl (by kernel_rfl) (by kernel_rfl) (by kernel_rfl) (fun _ _ _ h => h) (Or.inl ⟨by rfl, fun w hSw => by go_simp⟩) (by assumption) ?_
    try simp only [Act.put, List.setIfInBounds_toArray, List.set_cons_zero, List.set_cons_succ]
    refine wpAnyH_ready (rs := [11]) (by kernel_rfl) (by simp) ?_
    refine AllReadyH.cons (o := ⟨none, .store 149 (.tmp 39) (.tmp 37), 0, "routes.go:67", #[⟨10, .data⟩, ⟨8, .data⟩, ⟨8, .chain⟩, ⟨0, .phase⟩, ⟨1, .phase⟩, ⟨2, .phase⟩, ⟨3, .phase⟩, ⟨4, .phase⟩, ⟨5, .phase⟩, ⟨6, .phase⟩, ⟨7, .phase⟩, ⟨8, .phase⟩], none⟩) rfl (fun K hK => ?_) AllReadyH.nil
    obtain ⟨r0, rf⟩ := row1 HR5.out
    have hql : q < w5.heap.size := (Array.getElem?_eq_some_iff.1 HR5.out).1
    go_simp
    refine hK.out _ _ (hHeld.trans (Fr.grown (grown_setCell w5 q 0 _) (fun k e => Or.inl (Option.some.inj e).symm))) (fun hHeld2 => ?_)
    clear hK K hHeld r0 rf hql
    have HZ := Lib.hid (And.intro (heap_setCell_same w5 q 0 _ 177 (.slice A5 (putE L e).length c5) HR5.out) (And.intro (H5.out.1.fr (X := fun k => k = q) (Fr.grown (grown_setCell w5 q 0 (.slice A5 (putE L e).length c5)) (fun k e => (Option.some.inj e).symm)) (fun b e0 e1 => by
      subst e1
      rcases H5.out.2.2.1 with h | h
      · exact HK.out.r.ne (h.symm.trans e0)
      · rw [e0] at h; have h := Option.some.inj h; have := HA.out.1.r.lt; omega)) (And.intro hHeld2 H5.out.2.2.1)))
    clear hHeld2
    try simp only [Act.put, List.setIfInBounds_toArray, List.set_cons_zero, List.set_cons_succ]
    generalize w5.setCell _ _ = w6 at *
    refine wpAnyH_done (by kernel_rfl) ?_ _
    try unfold NoPanic
    go_wp2
    go_ret
    refine ⟨rfl, _, ⟨HZ.out.1, HZ.out.2.1, ?_, HK.out.r.le⟩, (Fr.of HK.out.b).trans (HZ.out.2.2.1.mono fun k _ e => e), ?_⟩
    · rcases HZ.out.2.2.2 with h | h
      · exact fun e => HK.out.r.ne (h.symm.trans e)
      · exact fun e => by rw [h] at e; have e := Option.some.inj e; have := HA.out.1.r.lt; omega
    · rcases HZ.out.2.2.2 with h | h
      · exact Or.inl h
      · exact Or.inr fun b e => by rw [h] at e; have e := Option.some.inj e; have h1 := HA.out.1.b.size; have h2 := HK.out.b.size; omega
  · go_simp
    refine hK.out _ _ (hHeld.step ((Below.refl _ _).alloc (Nat.le_refl _) (.cells #[.int .u32 (e.a : Int), .int .u8 (e.n : Int), .int .i64 (e.b : Int), .int .i64 (e.d : Int), .int .u16 (e.s : Int), .int .u16 (e.m : Int), .int .u64 (e.u : Int)] 173))) (fun hHeld2 => ?_)
    clear hK K hHeld
    have hHeld := hHeld2
    clear hHeld2
    try simp only [Act.put, List.setIfInBounds_toArray, List.set_cons_zero, List.set_cons_succ]
    have HQ0 := Lib.hid (HQ.out.1.step ((Below.refl _ _).alloc (Nat.le_refl _) (.cells #[.int .u32 (e.a : Int), .int .u8 (e.n : Int), .int .i64 (e.b : Int), .int .i64 (e.d : Int), .int .u16 (e.s : Int), .int .u16 (e.m : Int), .int .u64 (e.u : Int)] 173)))
    refine wpAnyH_ready (rs := [4]) (by kernel_rfl) (by simp) ?_
    refine (AllReadyH.cons (o := ⟨some 33, .load 149 (.tmp 32), 149, "routes.go:67", #[⟨3, .data⟩], none⟩) rfl (fun K hK => ?_) AllReadyH.nil)
    obtain ⟨q0, -⟩ := row1 (HQ.out.2 ▸ HQ0.out.r.row)
    go_simp
    refine hK.out _ _ (hHeld) (fun hHeld2 => ?_)
    clear hK K hHeld
    have hHeld := hHeld2
    clear hHeld2
    try simp only [Act.put, List.setIfInBounds_toArray, List.set_cons_zero, List.set_cons_succ]
    clear q0 HQ0
    have HA := Lib.hid (And.intro (HQ.out.1.step ((Below.refl _ _).alloc (Nat.le_refl _) (.cells #[.int .u32 (e.a : Int), .int .u8 (e.n : Int), .int .i64 (e.b : Int), .int .i64 (e.d : Int), .int .u16 (e.s : Int), .int .u16 (e.m : Int), .int .u64 (e.u : Int)] 173))) (heap_alloc_new wd (.cells #[.int .u32 (e.a : Int), .int .u8 (e.n : Int), .int .i64 (e.b : Int), .int .i64 (e.d : Int), .int .u16 (e.s : Int), .int .u16 (e.m : Int), .int .u64 (e.u : Int)] 173)))
    have hzn : ¬ (wd.heap.size < w3.heap.size) := by have := hHeld0.out.size; omega
    generalize wd.alloc _ = wa at *
    generalize wd.heap.size = z at *
    refine wpAnyH_ready (rs := [8]) (by kernel_rfl) (by simp) ?_
    refine AllReadyH.cons (o := ⟨some 37, .call ⟨.value (.func 156), #[.tmp 33, .tmp 34, .tmp 36], #[149, 3, 149]⟩, 149, "routes.go:67", #[⟨4, .data⟩, ⟨5, .data⟩, ⟨7, .data⟩], none⟩) rfl (fun K hK => ?_) AllReadyH.nil
    have hz : v.ownBlock ≠ some z := fun e => hzn (own_lt HK.out.r.own e).2
    have c67 := ins_any wa lo v L e x z HA.out.1.r.own HA.out.2 hz HG.out.2.2.1 (by have := HG.out.2.2.2.1; omega) (by have := HA.out.1.r.le; have := HA.out.1.r.lt; omega)
    rw [HG.out.2.2.2.2.1] at c67
    have c67 : Calls Tryz.prog 156 #[.slice A L.length c, .int .i64 (x : Int), .slice (some ⟨z, 0, none⟩) 1 1] wa (InsSaid wa lo v (putE L e)) := by rw [← HQ.out.2]; exact c67
    go_simp
    with_reducible refine c67.mono ?_
    rintro en w5 ⟨v', rfl, O5, G5, L5⟩
    obtain ⟨A5, c5, hv5, -, -⟩ := O5.form
    have H5 := Lib.hid (And.intro O5 (And.intro G5 (And.intro L5 hv5)))
    clear c67 O5 L5 hz
    refine hK.out _ _ (hHeld.trans (Fr.grown G5 (fun k e => Or.inr e))) (fun hHeld2 => ?_)
    clear hK K hHeld G5
    have hHeld := hHeld2
    clear hHeld2
    try simp only [Act.put, List.setIfInBounds_toArray, List.set_cons_zero, List.set_cons_succ]
    have hrow : w5.heap[q]? = some (.cells #[v] 177 (0, 0)) := (H5.out.2.1.block q HA.out.1.r.lt (fun e => HK.out.r.ne e.symm)).trans HA.out.1.r.row
    have HR5 := Lib.hid hrow
    clear hrow
    subst hv5
    refine wpAnyH_take (i := 9) (oi := ⟨some 38, .nilCheck (.tmp 29), 0, "routes.go:67", #[⟨0, .data⟩, ⟨0, .phase⟩, ⟨1, .phase⟩, ⟨2, .phase⟩, ⟨3, .phase⟩, ⟨4, .phase⟩, ⟨5, .phase⟩, ⟨6, .phase⟩, ⟨7, .phase⟩, ⟨8, .phase⟩], none⟩) (v := .pointer (some ⟨q, 0, none⟩)) rfl (by kernel_rfl) (by kernel_rfl) (by kernel_rfl) (fun _ _ _ h => h) (Or.inl ⟨by rfl, fun w hSw => by go_simp⟩) (by assumption) ?_
    try simp only [Act.put, List.setIfInBounds_toArray, List.set_cons_zero, List.set_cons_succ]
    refine wpAnyH_take (i := 10) (oi := ⟨some 39, .fieldAddr 177 (.tmp 38) 0, 0, "routes.go:67", #[⟨9, .data⟩, ⟨0, .phase⟩, ⟨1, .phase⟩, ⟨2, .phase⟩, ⟨3, .phase⟩, ⟨4, .phase⟩, ⟨5, .phase⟩, ⟨6, .phase⟩, ⟨7, .phase⟩, ⟨8, .phase⟩], none⟩) (v := .pointer (some ⟨q, 0, none⟩)) rfl (by kernel_rfl) (by kernel_rfl) (by kernel_rfl) (fun _ _ _ h => h) (Or.inl ⟨by rfl, fun w hSw => by go_simp⟩) (by assumption) ?_
    try simp only [Act.put, List.setIfInBounds_toArray, List.set_cons_zero, List.set_cons_succ]
    refine wpAnyH_ready (rs := [11]) (by kernel_rfl) (by simp) ?_
    refine AllReadyH.cons (o := ⟨none, .store 149 (.tmp 39) (.tmp 37), 0, "routes.go:67", #[⟨10, .data⟩, ⟨8, .data⟩, ⟨8, .chain⟩, ⟨0, .phase⟩, ⟨1, .phase⟩, ⟨2, .phase⟩, ⟨3, .phase⟩, ⟨4, .phase⟩, ⟨5, .phase⟩, ⟨6, .phase⟩, ⟨7, .phase⟩, ⟨8, .phase⟩], none⟩) rfl (fun K hK => ?_) AllReadyH.nil
    obtain ⟨r0, rf⟩ := row1 HR5.out
    have hql : q < w5.heap.size := (Array.getElem?_eq_some_iff.1 HR5.out).1
    go_simp
    refine hK.out _ _ (hHeld.trans (Fr.grown (grown_setCell w5 q 0 _) (fun k e => Or.inl (Option.some.inj e).symm))) (fun hHeld2 => ?_)
    clear hK K hHeld r0 rf hql
    have HZ := Lib.hid (And.intro (heap_setCell_same w5 q 0 _ 177 (.slice A5 (putE L e).length c5) HR5.out) (And.intro (H5.out.1.fr (X := fun k => k = q) (Fr.grown (grown_setCell w5 q 0 (.slice A5 (putE L e).length c5)) (fun k e => (Option.some.inj e).symm)) (fun b e0 e1 => by
      subst e1
      rcases H5.out.2.2.1 with h | h
      · exact HK.out.r.ne (h.symm.trans e0)
      · rw [e0] at h; have h := Option.some.inj h; have := HA.out.1.r.lt; omega)) (And.intro hHeld2 H5.out.2.2.1)))
    clear hHeld2
    try simp only [Act.put, List.setIfInBounds_toArray, List.set_cons_zero, List.set_cons_succ]
    generalize w5.setCell _ _ = w6 at *
    refine wpAnyH_done (by kernel_rfl) ?_ _
    try unfold NoPanic
    go_wp2
    go_ret
    refine ⟨rfl, _, ⟨HZ.out.1, HZ.out.2.1, ?_, HK.out.r.le⟩, (Fr.of HK.out.b).trans (HZ.out.2.2.1.mono fun k _ e => e), ?_⟩
    · rcases HZ.out.2.2.2 with h | h
      · exact fun e => HK.out.r.ne (h.symm.trans e)
      · exact fun e => by rw [h] at e; have e := Option.some.inj e; have := HA.out.1.r.lt; omega
    · rcases HZ.out.2.2.2 with h | h
      · exact Or.inl h
      · exact Or.inr fun b e => by rw [h] at e; have e := Option.some.inj e; have h1 := HA.out.1.b.size; have h2 := HK.out.b.size; omega
end Go.Proofs.YtjbogjbopgcbhaaGreatDoor.Rts
namespace Go.Proofs.YtjbogjbopgcbhaaGreatDoor.Rts
open Pre Ser
open Go.Proofs.YtjbogjbopgcbhaaGreatDoor.Src (row1 row2)
open Go.ChangeShapes Go.WideShapes Go.ChangeAt Go.RowKit
set_option maxRecDepth 8000
def idxV (p : E → Bool) (L : List E) : Int := if L.any p then (L.findIdx p : Int) else -1
theorem idxV_hit {p : E → Bool} {L : List E} {k : Nat} (hk : k < L.length) (hp : p L[k] = true) (h : ∀ j (hj : j < L.length), j < k → p L[j] = false) : idxV p L = (k : Int) := by
  have ha : L.any p = true := List.any_eq_true.2 ⟨_, List.getElem_mem hk, hp⟩
  unfold idxV
  rw [if_pos ha]
  congr 1
  exact (List.findIdx_eq hk).2 ⟨hp, fun j hj => h j (by omega) hj⟩
theorem idxV_miss {p : E → Bool} {L : List E} (h : ∀ j (hj : j < L.length), p L[j] = false) : idxV p L = -1 := by
  unfold idxV
  rw [if_neg]
  intro ha
  obtain ⟨x, hx, hp⟩ := List.any_eq_true.1 ha
  obtain ⟨j, hj, rfl⟩ := List.getElem_of_mem hx
  rw [h j hj] at hp; cases hp
set_option maxHeartbeats 2000000 in
theorem idxf_any (w : World) (A : Option Addr) (n c : Nat) (L : List E) (hn : n = L.length) (hlen : n ≤ 1000) (hsl : ESl w A L) (hL : ∀ e ∈ L, e.Ok) (p : E → Bool) (g xb : Nat) (eg : ∀ args w, (callFunc g args).run Tryz.prog w = .ok (.enter g args) w)
    (hp : ∀ (W : World) (e : E), Below w.heap.size w W → e.Ok → Calls Tryz.prog g #[.agg #[.int .u32 (e.a : Int), .int .u8 (e.n : Int), .int .i64 (e.b : Int), .int .i64 (e.d : Int), .int .u16 (e.s : Int), .int .u16 (e.m : Int), .int .u64 (e.u : Int)], .pointer (some ⟨xb, 0, none⟩)] W fun en w' => en = .returned (.bool (p e)) ∧ Below W.heap.size W w') :
    Calls Tryz.prog 165 #[.slice A n c, .func (.func g) #[] #[.pointer (some ⟨xb, 0, none⟩)]] w fun en w' => en = .returned (.int .i64 (idxV p L)) ∧ Below w.heap.size w w' := by
  have HH := Lib.hid (And.intro hn (And.intro hsl (And.intro hL hp)))
  clear hn hsl hL hp
  go_enter Tryz.func165, Tryz.ntmps165
  go_wp2
  go_loopw [5, 8] (fun _ i wr => ∃ j : Nat, j ≤ n ∧ i = .int .i64 j ∧ Hid (Below w.heap.size w wr ∧ ∀ k (hk : k < L.length), k < j → p L[k] = false)) (fun _ i _ => n - (intOf i).toNat)
  case atStart => exact ⟨0, Nat.zero_le _, rfl, Below.refl _ _, fun k hk h => absurd h (Nat.not_lt_zero _)⟩
  case round =>
    obtain ⟨j, hj, rfl, HR⟩ := hrel
    by_cases hlt : j < n
    · have hjl : j < L.length := by rw [← HH.out.1]; exact hlt
      obtain ⟨b, o, rfl, hb, hE⟩ := (HH.out.2.1.below HR.out.1) j hjl
      have hcall := HH.out.2.2.2 wr L[j] HR.out.1 (HH.out.2.2.1 _ (List.getElem_mem hjl))
      have HX := Lib.hid (fun (h : p L[j] = true) => idxV_hit hjl h HR.out.2)
      have HY := Lib.hid (fun (h : p L[j] = false) (k : Nat) (hk : k < L.length) (hkj : k < j + 1) => show p L[k] = false by
        rcases Nat.lt_or_eq_of_le (Nat.lt_succ_iff.1 hkj) with h1 | h1
        · exact HR.out.2 k hk h1
        · subst h1; exact h)
      generalize L[j] = e at hE hcall HX HY
      obtain ⟨k0, k1, k2, k3, k4, k5, k6⟩ := hE
      cases hq : p e with
      | true =>
        rw [hq] at hcall
        have HV := Lib.hid (HX.out hq)
        clear HX HY hq
        go_wp2_with (go_at_fn g; refine hcall.mono ?_; rintro en w' ⟨rfl, hb'⟩)
        go_ret
        exact ⟨by rw [HV.out]; rfl, HR.out.1.trans (hb'.mono HR.out.1.size)⟩
      | false =>
        rw [hq] at hcall
        have HV := Lib.hid (HY.out hq)
        clear HX HY hq
        go_wp2_with (go_at_fn g; refine hcall.mono ?_; rintro en w' ⟨rfl, hb'⟩)
        go_roundw
        case rel => exact ⟨j + 1, by omega, by go_num, HR.out.1.trans (hb'.mono HR.out.1.size), HV.out⟩
        case measure => simp [intOf]; omega
    · obtain rfl : j = n := by omega
      have HV := Lib.hid (idxV_miss (p := p) (L := L) fun k hk => HR.out.2 k hk (by have := HH.out.1; omega))
      go_wp2
      go_ret
      exact ⟨by rw [HV.out]; rfl, HR.out.1⟩
def zv43 : Value := .agg #[.int .u32 0, .int .u8 0, .int .i64 0, .int .i64 0, .int .u16 0, .int .u16 0, .int .u64 0]
theorem run_clear_rows (w : World) (ty g off n c : Nat) (cur : Array Value) (hg : w.heap[g]? = some (.cells cur 173 (0, 0))) (hn : 0 < n) (hfit : off + n * 7 ≤ cur.size) :
    ∃ cur', (Builtin.clear_ #[149] ty #[.slice (some ⟨g, off, none⟩) n c]).run Tryz.prog w = .ok (.tuple #[]) (w.setRow g cur') ∧ cur'.size = cur.size ∧ ∀ j, j < off → cur'[j]? = cur[j]? := by
  have hz : ∀ w, (zeroValue 173).run Tryz.prog w = .ok zv43 w := fun w => rfl
  have hs : (Builtin.zeroCells zv43.cells n).toList.length = n * 7 := by
    rw [Array.length_toList, size_zeroCells]; rfl
  have h1 : ∀ u ∈ (Builtin.zeroCells zv43.cells n).toList, u.oneCell' = true := fun u hu => by
    simp only [Builtin.zeroCells, Array.toList_map, List.mem_map] at hu
    obtain ⟨j, _, rfl⟩ := hu
    have e4 : zv43.cells.size = 7 := rfl
    rw [e4]
    have hj : j % 7 = 0 ∨ j % 7 = 1 ∨ j % 7 = 2 ∨ j % 7 = 3 ∨ j % 7 = 4 ∨ j % 7 = 5 ∨ j % 7 = 6 := by omega
    rcases hj with h | h | h | h | h | h | h <;> (rw [h]; rfl)
  have hst := run_storeCells_at Tryz.prog g off 173 (Builtin.zeroCells zv43.cells n).toList 0 cur w hg (by rw [hs]; simpa using hfit) h1
  simp only [Nat.add_zero] at hst
  rw [hs] at hst
  obtain ⟨k, rfl⟩ : ∃ k, n = k + 1 := ⟨n - 1, by omega⟩
  generalize hcl : (Builtin.zeroCells zv43.cells (k + 1)).toList = news at *
  refine ⟨(cur.toList.take off ++ news ++ cur.toList.drop (off + (k + 1) * 7)).toArray, ?_, ?_, fun j hj => ?_⟩
  · simp [Builtin.clear_, run_underlying Tryz.underlying149, hz, hcl, hst]
  · simp only [List.size_toArray, List.length_append, List.length_take, List.length_drop, Array.length_toList]
    omega
  · rw [List.getElem?_toArray, List.append_assoc, List.getElem?_append_left (by rw [List.length_take, Array.length_toList]; omega), List.getElem?_take_of_lt hj]
    simp
theorem EOwn.at_ {w : World} {B g0 n cp : Nat} {rs : List E} (h : EOwn w B (.slice (some ⟨g0, 0, none⟩) n cp) rs) {k : Nat} (hk : k < rs.length) : EAt w g0 (k * 7) rs[k] ∧ (∀ i, w.frozen? ⟨g0, i, none⟩ = false) ∧ g0 < w.heap.size := by
  obtain ⟨g, c, cur, hv, hB, hg, -, -, -, -, hE⟩ := h.rows (by omega)
  obtain ⟨rfl, -, -, -⟩ := slice_inj hv
  exact ⟨hE k hk, fun i => frozen_of_row w g0 i _ 173 hg, (Array.getElem?_eq_some_iff.1 hg).1⟩
theorem clear_own (w : World) (B g n cp : Nat) (rs : List E) (h : EOwn w B (.slice (some ⟨g, 0, none⟩) n cp) rs) (i : Nat) (hi : i < rs.length) :
    ∃ w', (∀ ty, (Builtin.clear_ #[149] ty #[.slice (some ⟨g, i * 7, none⟩) (n - i) (cp - i)]).run Tryz.prog w = .ok (.tuple #[]) w') ∧ EOwn w' B (.slice (some ⟨g, 0, none⟩) i cp) (rs.take i) ∧ w.grownBy w' (some g) := by
  rcases h.2 with ⟨hv, _⟩ | ⟨g', cap, cur, hv, hB, hg, h1, h2, h3, h4⟩
  · cases hv
  · obtain ⟨rfl, -, rfl, rfl⟩ := slice_inj hv
    obtain ⟨cur', hr, hs, ha⟩ := run_clear_rows w 0 g (i * 7) (rs.length - i) (cp - i) cur hg (by omega) (by omega)
    have hl : (rs.take i).length = i := by rw [List.length_take]; omega
    refine ⟨w.setRow g cur', fun ty => hr, ⟨by rw [rflat_len], Or.inr ⟨g, cp, cur', by rw [hl], hB, setRow_heap w g _ _ 173 _ hg, by rw [hl]; omega, h2, by rw [hs, h3], ?_⟩⟩, ⟨rfl, rfl, rfl, by simp, fun k _ hne => setRow_other w g k _ (fun e => hne (by rw [e]))⟩⟩
    rw [hl, ← rflat_take, ← h4, List.take_take, Nat.min_eq_left (by omega)]
    apply List.ext_getElem?
    intro j
    by_cases hj : j < i * 7
    · rw [List.getElem?_take_of_lt hj, List.getElem?_take_of_lt hj]
      have := ha j hj
      simpa using this
    · rw [List.getElem?_eq_none (by rw [List.length_take]; omega), List.getElem?_eq_none (by rw [List.length_take]; omega)]
structure Del (p : E → Bool) (L M : List E) (i j : Nat) : Prop where
  len : M.length = L.length
  pre : M.take i = (L.take j).filter fun e => !p e
  suf : M.drop j = L.drop j
  lt : i < j
  le : j ≤ L.length
theorem Del.start {p : E → Bool} {L : List E} {k : Nat} (hk : k < L.length) (hp : p L[k] = true) (h : ∀ j (hj : j < L.length), j < k → p L[j] = false) : Del p L L k (k + 1) := by
  refine ⟨rfl, ?_, rfl, by omega, hk⟩
  rw [List.take_succ_eq_append_getElem hk, List.filter_append]
  have e1 : (L.take k).filter (fun e => !p e) = L.take k := List.filter_eq_self.2 fun e he => by
    obtain ⟨j, hj, rfl⟩ := List.getElem_of_mem he
    rw [List.length_take] at hj
    rw [List.getElem_take, h j (by omega) (by omega)]; rfl
  rw [e1]
  simp [hp]
theorem Del.at_ {p : E → Bool} {L M : List E} {i j : Nat} (h : Del p L M i j) (hj : j < L.length) (hm : j < M.length) : M[j] = L[j] := by
  have := congrArg (·[0]?) h.suf
  simp only [List.getElem?_drop, Nat.add_zero] at this
  rw [List.getElem?_eq_getElem hm, List.getElem?_eq_getElem hj] at this
  exact Option.some.inj this
theorem Del.gone {p : E → Bool} {L M : List E} {i j : Nat} (h : Del p L M i j) (hj : j < L.length) (hp : p L[j] = true) : Del p L M i (j + 1) := by
  refine ⟨h.len, ?_, ?_, by have := h.lt; omega, hj⟩
  · rw [List.take_succ_eq_append_getElem hj, List.filter_append, h.pre]
    simp [hp]
  · have := congrArg (List.drop 1) h.suf
    simpa [List.drop_drop] using this
theorem Del.stays {p : E → Bool} {L M : List E} {i j : Nat} (h : Del p L M i j) (hj : j < L.length) (hp : p L[j] = false) : Del p L (M.set i L[j]) (i + 1) (j + 1) := by
  have hl := h.lt
  have him : i < M.length := by rw [h.len]; omega
  refine ⟨by rw [List.length_set]; exact h.len, ?_, ?_, by omega, hj⟩
  · rw [List.take_succ_eq_append_getElem hj, List.filter_append, ← h.pre, List.take_succ_eq_append_getElem (by rw [List.length_set]; exact him), List.take_set_of_le (Nat.le_refl _), List.getElem_set_self]
    simp [hp]
  · rw [List.drop_set_of_lt (by omega)]
    have := congrArg (List.drop 1) h.suf
    simpa [List.drop_drop] using this
theorem Del.end {p : E → Bool} {L M : List E} {i : Nat} (h : Del p L M i L.length) : M.take i = L.filter fun e => !p e := by
  rw [h.pre, List.take_length]
set_option maxHeartbeats 2000000 in
theorem delf_any (w : World) (lo : Nat) (v : Value) (L : List E) (h : EOwn w lo v L) (hlen : L.length ≤ 1000) (hL : ∀ e ∈ L, e.Ok) (p : E → Bool) (f xb : Nat) (eg : ∀ args w, (callFunc f args).run Tryz.prog w = .ok (.enter f args) w)
    (hp : ∀ (W : World) (e : E), Fr (fun k => v.ownBlock = some k) w W → e.Ok → Calls Tryz.prog f #[.agg #[.int .u32 (e.a : Int), .int .u8 (e.n : Int), .int .i64 (e.b : Int), .int .i64 (e.d : Int), .int .u16 (e.s : Int), .int .u16 (e.m : Int), .int .u64 (e.u : Int)], .pointer (some ⟨xb, 0, none⟩)] W fun en w' => en = .returned (.bool (p e)) ∧ Below W.heap.size W w') :
    Calls Tryz.prog 152 #[v, .func (.func f) #[] #[.pointer (some ⟨xb, 0, none⟩)]] w fun en w' => ∃ v', en = .returned v' ∧ EOwn w' lo v' (L.filter fun e => !p e) ∧ Fr (fun k => v.ownBlock = some k) w w' ∧ v'.ownBlock = v.ownBlock := by
  obtain ⟨A, cp, hv, hsl, -⟩ := h.form
  have c60 := idxf_any w A L.length cp L rfl hlen hsl hL p f xb eg (fun W e hB he => hp W e (Fr.of hB) he)
  by_cases ha : ∀ j (hj : j < L.length), p L[j] = false
  · rw [idxV_miss ha] at c60
    have hfe : (L.filter fun e => !p e) = L := List.filter_eq_self.2 fun e he => by
      obtain ⟨j, hj, rfl⟩ := List.getElem_of_mem he
      rw [ha j hj]; rfl
    rw [hfe]
    rw [← hv] at c60
    have HH := Lib.hid (And.intro h c60)
    clear ha hfe hsl hL hp h c60 hv
    go_enter Tryz.func152, Tryz.ntmps152
    go_wp2_with (go_at_call 165; (with_reducible refine HH.out.2.mono ?_); rintro en w3 ⟨rfl, B3⟩; have H3 := Lib.hid B3; clear B3)
    go_ret
    exact ⟨v, rfl, HH.out.1.kept H3.out, Fr.of H3.out, rfl⟩
  · obtain ⟨k, hk, hpk, hfi⟩ : ∃ k, ∃ hk : k < L.length, p L[k] = true ∧ ∀ j (hj : j < L.length), j < k → p L[j] = false := by
      have hx : L.any p = true := by
        rw [List.any_eq_true]
        apply Classical.byContradiction
        intro hne
        exact ha fun j hj => by
          cases hq : p L[j] with
          | false => rfl
          | true => exact absurd ⟨_, List.getElem_mem hj, hq⟩ hne
      have hx2 := List.findIdx_lt_length_of_exists (p := p) (xs := L) (by obtain ⟨x, h1, h2⟩ := List.any_eq_true.1 hx; exact ⟨x, h1, h2⟩)
      exact ⟨L.findIdx p, hx2, List.findIdx_getElem (w := hx2), fun j hj hlt => by have := List.not_of_lt_findIdx hlt; simpa using this⟩
    rw [idxV_hit hk hpk hfi] at c60
    have D0 := Del.start hk hpk hfi
    obtain ⟨g, cp', cur, hv', hBg, hg, hcp, hcm, -, -, -⟩ := h.rows (by omega)
    rw [hv] at hv'
    injection hv' with e1 _ e3
    subst e1 e3
    obtain ⟨n, hn⟩ : ∃ n, n = L.length := ⟨_, rfl⟩
    have hob : ∀ k : Nat, v.ownBlock = some k ↔ k = g := fun k => by rw [hv]; exact ⟨fun e => (Option.some.inj e).symm, fun e => by rw [e]; rfl⟩
    subst hv
    rw [← hn] at hcp hlen
    have HC := Lib.hid c60
    rw [← hn] at HC
    have HG := Lib.hid (And.intro hn (And.intro hL (And.intro hp (And.intro hob (And.intro D0 h)))))
    have hkn : k < n := by omega
    have hw1 : IntKind.i64.wrap ((k : Int) + 1) = ((k + 1 : Nat) : Int) := by rw [IntKind.wrap_i64]; omega
    have hne1 : ((k : Int) == -1) = false := by simp
    clear ha hfi hpk hk D0 hg hob hL hp hsl c60 h
    rw [← hn]
    clear hn
    go_enter Tryz.func152, Tryz.ntmps152
    go_wp2_with (go_at_call 165; (with_reducible refine HC.out.mono ?_); rintro en w3 ⟨rfl, B3⟩; have H3 := Lib.hid B3; clear B3)
    clear hw1 hne1
    go_loopw [5, 6] (fun i j wr => ∃ i0 : Nat, i = .int .i64 i0 ∧ ∃ j0 : Nat, j0 ≤ n ∧ i0 < n ∧ j = .int .i64 j0 ∧ ∃ M, Hid (Del p L M i0 j0 ∧ EOwn wr lo (.slice (some ⟨g, 0, none⟩) n cp) M ∧ Fr (fun k => k = g) w wr)) (fun i j _ => n - (intOf j).toNat)
    case atStart => exact ⟨k, rfl, k + 1, hkn, hkn, by go_num, L, HG.out.2.2.2.2.1, HG.out.1 ▸ HG.out.2.2.2.2.2.kept H3.out, Fr.of H3.out⟩
    case round =>
      obtain ⟨i0, rfl, j0, hj, hin, rfl, M, HR⟩ := hrel
      by_cases hlt : j0 < n
      · have hjl : j0 < L.length := by rw [← HG.out.1]; exact hlt
        have hjm : j0 < M.length := by rw [HR.out.1.len]; exact hjl
        obtain ⟨hE, hfz, hgl⟩ := HR.out.2.1.at_ hjm
        rw [HR.out.1.at_ hjl hjm] at hE
        have heo := HG.out.2.1 _ (List.getElem_mem hjl)
        have HX := Lib.hid (fun h => HR.out.1.gone hjl h)
        have HY := Lib.hid (fun h => HR.out.1.stays hjl h)
        have him : i0 < M.length := by rw [HR.out.1.len, ← HG.out.1]; exact hin
        have hEi := (HR.out.2.1.at_ him).1
        obtain ⟨ei, hei⟩ : ∃ ei, ei = M[i0] := ⟨_, rfl⟩
        rw [← hei] at hEi
        obtain ⟨e, hee⟩ : ∃ e, e = L[j0] := ⟨_, rfl⟩
        rw [← hee] at hE heo HX HY
        have HEi := Lib.hid hEi
        clear hei hee hEi
        obtain ⟨k0, k1, k2, k3, k4, k5, k6⟩ := hE
        go_upto_region 8 with (fail)
        clear k0 k1 k2 k3 k4 k5 k6
        have hr8 := heap_alloc_new wr (.cells #[.int .u32 (e.a : Int), .int .u8 (e.n : Int), .int .i64 (e.b : Int), .int .i64 (e.d : Int), .int .u16 (e.s : Int), .int .u16 (e.m : Int), .int .u64 (e.u : Int)] 173)
        have B8 := (Below.refl wr.heap.size wr).alloc (Nat.le_refl _) (.cells #[.int .u32 (e.a : Int), .int .u8 (e.n : Int), .int .i64 (e.b : Int), .int .i64 (e.d : Int), .int .u16 (e.s : Int), .int .u16 (e.m : Int), .int .u64 (e.u : Int)] 173)
        have F8 : Fr (fun k => k = g) w (wr.alloc (.cells #[.int .u32 (e.a : Int), .int .u8 (e.n : Int), .int .i64 (e.b : Int), .int .i64 (e.d : Int), .int .u16 (e.s : Int), .int .u16 (e.m : Int), .int .u64 (e.u : Int)] 173)) := HR.out.2.2.step B8
        have hcall := HG.out.2.2.1 _ e (F8.mono fun k _ e => (HG.out.2.2.2.1 k).2 e) heo
        have H8 := Lib.hid (And.intro F8 (And.intro B8 hr8))
        clear F8 B8 hr8
        generalize wr.alloc _ = wb at *
        obtain ⟨p0, p1, p2, p3, p4, p5, p6⟩ := row7 H8.out.2.2
        cases hq : p e with
        | true =>
          rw [hq] at hcall
          have HV := Lib.hid (HX.out hq)
          clear HX HY hq
          go_wp2_with (go_at_fn f; refine hcall.mono ?_; rintro en w5 ⟨rfl, hb'⟩)
          go_roundw
          case rel => exact ⟨i0, rfl, j0 + 1, by omega, hin, by go_num, M, HV.out, (HR.out.2.1.kept H8.out.2.1).kept hb', H8.out.1.step hb'⟩
          case measure => simp [intOf]; omega
        | false =>
          rw [hq] at hcall
          have HV := Lib.hid (HY.out hq)
          clear HX HY hq
          go_upto_region 9 with (go_at_fn f; refine hcall.mono ?_; rintro en w5 ⟨rfl, hb'⟩)
          clear p0 p1 p2 p3 p4 p5 p6
          have HW5 := Lib.hid (And.intro ((HR.out.2.1.kept H8.out.2.1).kept hb') (And.intro (H8.out.1.step hb') (brow hb' H8.out.2.2)))
          have hgl5 : g < w5.heap.size := Nat.lt_of_lt_of_le hgl (Nat.le_trans H8.out.2.1.size hb'.size)
          obtain ⟨p0, p1, p2, p3, p4, p5, p6⟩ := row7 HW5.out.2.2
          obtain ⟨c0, c1, c2, c3, c4, c5, c6⟩ := HEi.out.keep ((hb'.block g (Nat.lt_of_lt_of_le hgl H8.out.2.1.size)).trans (H8.out.2.1.block g hgl))
          have hfz5 := (HW5.out.1.at_ him).2.1
          have hij := HR.out.1.lt
          have HWP := Lib.hid (And.intro (EOwn.put HW5.out.1 him e (by rfl)) (HW5.out.2.1.trans (Fr.grown (X := fun k => k = g) (grown7 w5 g (i0 * 7) (.int .u32 (e.a : Int)) (.int .u8 (e.n : Int)) (.int .i64 (e.b : Int)) (.int .i64 (e.d : Int)) (.int .u16 (e.s : Int)) (.int .u16 (e.m : Int)) (.int .u64 (e.u : Int))) (fun k e => (Option.some.inj e).symm))))
          clear hb' hfz hgl
          go_wp2
          go_roundw
          case rel => exact ⟨i0 + 1, by go_num, j0 + 1, by omega, by omega, by go_num, M.set i0 e, HV.out, HWP.out⟩
          case measure => simp [intOf]; omega
      · obtain rfl : j0 = n := by omega
        have him : i0 < M.length := by rw [HR.out.1.len, ← HG.out.1]; exact hin
        obtain ⟨w', hcl, hown, hgr⟩ := clear_own wr lo g j0 cp M HR.out.2.1 i0 him
        have hend := (HG.out.1 ▸ HR.out.1).end
        rw [hend] at hown
        have HZ := Lib.hid (And.intro hown (HR.out.2.2.trans (Fr.grown (X := fun k => k = g) hgr (fun k e => (Option.some.inj e).symm))))
        clear hown hend hgr him
        have hicp : i0 ≤ cp := by omega
        have hij2 : i0 ≤ j0 := by omega
        go_wp2
        go_ret
        exact ⟨.slice (some ⟨g, 0, none⟩) i0 cp, by rfl, HZ.out.1, HZ.out.2.mono (fun k _ e => (HG.out.2.2.2.1 k).2 e), rfl⟩
end Go.Proofs.YtjbogjbopgcbhaaGreatDoor.Rts
namespace Go.Proofs.YtjbogjbopgcbhaaGreatDoor.Rts
open Pre Ser
open Go.Proofs.YtjbogjbopgcbhaaGreatDoor.Src (row1 row2)
open Go.ChangeShapes Go.WideShapes Go.ChangeAt Go.RowKit
set_option maxRecDepth 8000
theorem mv_store {lo : Nat} {w w5 : World} {q : Nat} {v v' : Value} {L' : List E} (ans : Ending) (row : w5.heap[q]? = some (.cells #[v] 177 (0, 0))) (le : lo ≤ q) (own : EOwn w5 lo v' L') (ne : v'.ownBlock ≠ some q) (F : Fr (Xr q v) w w5) (hl : Later w v v') :
    MvSaid lo w q v L' ans ans (w5.setCell ⟨q, 0, none⟩ v') :=
  ⟨rfl, v', ⟨heap_setCell_same w5 q 0 _ 177 v' row, own.fr (X := fun k => k = q) (Fr.grown (grown_setCell w5 q 0 v') (fun k e => (Option.some.inj e).symm)) (fun b e0 e1 => ne (by rw [e0, e1])), ne, le⟩, F.trans (Fr.grown (grown_setCell w5 q 0 v') (fun k e => Or.inl (Option.some.inj e).symm)), hl⟩
set_option maxHeartbeats 1000000 in
theorem forget_any (w : World) (lo q : Nat) (v : Value) (L : List E) (h : RtsAt lo w q L v) (hlen : L.length ≤ 1000) (hL : ∀ e ∈ L, e.Ok) (p : E → Bool) (f xb : Nat) (eg : ∀ args w, (callFunc f args).run Tryz.prog w = .ok (.enter f args) w)
    (hp : ∀ (W : World) (e : E), Fr (fun k => v.ownBlock = some k) w W → e.Ok → Calls Tryz.prog f #[.agg #[.int .u32 (e.a : Int), .int .u8 (e.n : Int), .int .i64 (e.b : Int), .int .i64 (e.d : Int), .int .u16 (e.s : Int), .int .u16 (e.m : Int), .int .u64 (e.u : Int)], .pointer (some ⟨xb, 0, none⟩)] W fun en w' => en = .returned (.bool (p e)) ∧ Below W.heap.size W w') :
    Calls Tryz.prog 107 #[.pointer (some ⟨q, 0, none⟩), .func (.func f) #[] #[.pointer (some ⟨xb, 0, none⟩)]] w (MvSaid lo w q v (L.filter fun e => !p e) (.returned (.tuple #[]))) := by
  have c65 := delf_any w lo v L h.own hlen hL p f xb eg hp
  obtain ⟨A, c, hv, -, -⟩ := h.own.form
  obtain ⟨q0, -⟩ := row1 h.row
  subst hv
  have HH := Lib.hid (And.intro h c65)
  have hql := h.lt
  clear h c65 hL hp
  go_enter Tryz.func107, Tryz.ntmps107
  go_upto_region 1 with (fail)
  go_wp2_with (go_at_call 152; (with_reducible refine HH.out.2.mono ?_); rintro en w5 ⟨v', rfl, O5, F5, L5⟩; obtain ⟨A5, c5, hv5, -, -⟩ := O5.form; subst hv5; have H5 := Lib.hid (And.intro O5 (And.intro F5 L5)); have hrow5 := F5.row HH.out.1.row HH.out.1.ne; have HR5 := Lib.hid hrow5; obtain ⟨z0, zf⟩ := row1 hrow5; have hql5 : q < w5.heap.size := (Array.getElem?_eq_some_iff.1 hrow5).1; clear O5 F5 L5 hrow5 q0 hql)
  exact bodyPost_ret (v := .tuple #[]) (by simp [results, Tryz.results107, go_sem]) rfl (mv_store _ HR5.out HH.out.1.le H5.out.1 (by rw [H5.out.2.2]; exact HH.out.1.ne) (H5.out.2.1.mono fun k _ e => Or.inr e) (Or.inl H5.out.2.2))
theorem MvSaid.from {lo : Nat} {w W w' : World} {q : Nat} {v : Value} {L' : List E} {ans e : Ending} (B : Below w.heap.size w W) (h : MvSaid lo W q v L' ans e w') : MvSaid lo w q v L' ans e w' := by
  obtain ⟨h1, v', h2, h3, h4⟩ := h
  exact ⟨h1, v', h2, (Fr.of B).trans h3, h4.imp_right fun h b e => Nat.le_trans B.size (h b e)⟩
theorem new_any (w : World) : Calls Tryz.prog 72 #[] w fun e w' => e = .returned (.pointer (some ⟨w.heap.size, 0, none⟩)) ∧ RtsAt w.heap.size w' w.heap.size [] (.slice none 0 0) ∧ Below w.heap.size w w' := by
  go_enter Tryz.func72, Tryz.ntmps72
  go_wp2
  go_ret
  exact ⟨rfl, ⟨heap_alloc_new w _, EOwn.nil _ _, (by intro e; cases e), Nat.le_refl _⟩, (Below.refl _ _).alloc (Nat.le_refl _) _⟩
theorem isnode_any (x : Nat) (hx : x < 16) (w : World) : Calls Tryz.prog 121 #[.int .i64 (x : Int)] w fun e w' => e = .returned (.bool true) ∧ w = w' := by
  have h1 : (0 : Int) ≤ (x : Int) := by omega
  have h2 : (x : Int) < 16 := by omega
  go_enter Tryz.func121, Tryz.ntmps121
  go_wp2
  go_ret
  exact ⟨rfl, rfl⟩
end Go.Proofs.YtjbogjbopgcbhaaGreatDoor.Rts
namespace Go.Proofs.YtjbogjbopgcbhaaGreatDoor.Rts
open Pre Ser
open Go.Proofs.YtjbogjbopgcbhaaGreatDoor.Src (row1 row2)
open Go.ChangeShapes Go.WideShapes Go.ChangeAt Go.RowKit
set_option maxRecDepth 8000
theorem tellp_any (W : World) (e : E) (he : e.Ok) (xb pb yb a n b : Nat) (hn : n < 256) (hb : b < 16) (hx : W.heap[xb]? = some (.cells #[.func (.func 122) #[] #[.pointer (some ⟨pb, 0, none⟩), .pointer (some ⟨yb, 0, none⟩)]] 187 (0, 0))) (hp : W.heap[pb]? = some (.cells #[.int .u32 (a : Int), .int .u8 (n : Int)] 30 (0, 0))) (hy : W.heap[yb]? = some (.cells #[.int .i64 (b : Int)] 3 (0, 0))) :
    Calls Tryz.prog 123 #[.agg #[.int .u32 (e.a : Int), .int .u8 (e.n : Int), .int .i64 (e.b : Int), .int .i64 (e.d : Int), .int .u16 (e.s : Int), .int .u16 (e.m : Int), .int .u64 (e.u : Int)], .pointer (some ⟨xb, 0, none⟩)] W fun en w' => en = .returned (.bool (e.key == key a n b)) ∧ Below W.heap.size W w' := by
  have B1 := (Below.refl W.heap.size W).alloc (Nat.le_refl _) (.cells #[.int .u32 (e.a : Int), .int .u8 (e.n : Int), .int .i64 (e.b : Int), .int .i64 (e.d : Int), .int .u16 (e.s : Int), .int .u16 (e.m : Int), .int .u64 (e.u : Int)] 173)
  have c47 := order_any _ e pb yb a n b (brow B1 hp) (brow B1 hy)
  have ho := ordV_eq (e := e) (a := a) he.n he.b hn hb
  obtain ⟨y, hy'⟩ : ∃ y, y = ordV e a n b := ⟨_, rfl⟩
  rw [← hy'] at c47 ho
  have hr : (e.key == key a n b) = (y == 0) := by rw [Bool.eq_iff_iff]; simp [ho]
  have HC := Lib.hid (And.intro c47 (And.intro B1 hr))
  have hxl := (Array.getElem?_eq_some_iff.1 hx).1
  obtain ⟨x0, -⟩ := row1 hx
  clear c47 ho hy' hr hp hy B1 hx he
  go_enter Tryz.func123, Tryz.ntmps123
  go_wp2_with (go_at_call 122; (with_reducible refine HC.out.1.mono ?_); rintro en w3 ⟨rfl, B3⟩; have H3 := Lib.hid (HC.out.2.1.trans (B3.mono HC.out.2.1.size)); clear B3)
  go_ret
  exact ⟨by rw [HC.out.2.2]; rfl, H3.out⟩
structure TL (lo : Nat) (w W : World) (q : Nat) (L : List E) (v : Value) (a n b s m : Nat) : Prop where
  bl : Below w.heap.size w W
  r : RtsAt lo W q L v
  r0 : W.heap[w.heap.size]? = some (.cells #[.int .i64 (b : Int)] 3 (0, 0))
  r1 : W.heap[w.heap.size + 1]? = some (.cells #[.int .u32 (a : Int), .int .u8 (n : Int)] 30 (0, 0))
  r2 : W.heap[w.heap.size + 2]? = some (.cells #[.int .u16 (s : Int), .int .u16 (m : Int)] 48 (0, 0))
theorem TL.step {lo : Nat} {w W W' : World} {q : Nat} {L : List E} {v : Value} {a n b s m : Nat} (h : TL lo w W q L v a n b s m) (B : Below W.heap.size W W') : TL lo w W' q L v a n b s m :=
  ⟨h.bl.trans (B.mono h.bl.size), h.r.kept B, brow B h.r0, brow B h.r1, brow B h.r2⟩
theorem TL.start {lo : Nat} {w : World} {q : Nat} {L : List E} {v : Value} {a n b s m : Nat} (h : RtsAt lo w q L v) : TL lo w (((w.alloc (.cells #[.int .i64 (b : Int)] 3)).alloc (.cells #[.int .u32 (a : Int), .int .u8 (n : Int)] 30)).alloc (.cells #[.int .u16 (s : Int), .int .u16 (m : Int)] 48)) q L v a n b s m := by
  have B1 := (((Below.refl w.heap.size w).alloc (Nat.le_refl _) (.cells #[.int .i64 (b : Int)] 3)).alloc (by simp) (.cells #[.int .u32 (a : Int), .int .u8 (n : Int)] 30)).alloc (by simp; omega) (.cells #[.int .u16 (s : Int), .int .u16 (m : Int)] 48)
  have e1 : (w.alloc (.cells #[.int .i64 (b : Int)] 3)).heap.size = w.heap.size + 1 := by simp
  have e2 : ((w.alloc (.cells #[.int .i64 (b : Int)] 3)).alloc (.cells #[.int .u32 (a : Int), .int .u8 (n : Int)] 30)).heap.size = w.heap.size + 2 := by simp
  refine ⟨B1, h.kept B1, ?_, ?_, ?_⟩
  · exact (heap_alloc_old _ _ (by rw [e2]; omega)).trans ((heap_alloc_old _ _ (by rw [e1]; omega)).trans (heap_alloc_new w _))
  · have := heap_alloc_new (w.alloc (.cells #[.int .i64 (b : Int)] 3)) (.cells #[.int .u32 (a : Int), .int .u8 (n : Int)] 30)
    rw [e1] at this
    exact (heap_alloc_old _ _ (by rw [e2]; omega)).trans this
  · have := heap_alloc_new ((w.alloc (.cells #[.int .i64 (b : Int)] 3)).alloc (.cells #[.int .u32 (a : Int), .int .u8 (n : Int)] 30)) (.cells #[.int .u16 (s : Int), .int .u16 (m : Int)] 48)
    rw [e2] at this
    exact this
set_option maxHeartbeats 1000000 in
theorem tell_end (w : World) (lo q : Nat) (v : Value) (L : List E) (h : RtsAt lo w q L v) (hr : Rising L) (hlen : L.length ≤ 200) (hL : ∀ e ∈ L, e.Ok) (a n b d s m now : Nat) (ha : a < 4294967296) (hn : n < 256) (hright : Pre.right a n = true) (hb : b < 16) (hd : d < 16) (hs : s < 65536) (hnow : now < 4000000000000000000) (hm : m = 65535) :
    Calls Tryz.prog 82 #[.pointer (some ⟨q, 0, none⟩), .int .i64 (b : Int), .agg #[.int .u32 (a : Int), .int .u8 (n : Int)], .int .i64 (d : Int), .agg #[.int .u16 (s : Int), .int .u16 (m : Int)], .int .u64 (now : Int)] w (MvSaid lo w q v (L.filter fun e => !(e.key == key a n b)) (.returned (.int .i64 0))) := by
  have HR := Lib.hid (fun W => Pre.right_any a n ha (by omega) W)
  rw [hright] at HR
  have HI : Hid (∀ x : Nat, x < 16 → ∀ W, Calls Tryz.prog 121 #[.int .i64 (x : Int)] W fun e w' => e = .returned (.bool true) ∧ W = w') := Lib.hid isnode_any
  have HT := Lib.hid (TL.start (a := a) (n := n) (b := b) (s := s) (m := m) h)
  obtain ⟨W, hW⟩ : ∃ W, W = ((w.alloc (.cells #[.int .i64 (b : Int)] 3)).alloc (.cells #[.int .u32 (a : Int), .int .u8 (n : Int)] 30)).alloc (.cells #[.int .u16 (s : Int), .int .u16 (m : Int)] 48) := ⟨_, rfl⟩
  have HWE := Lib.hid hW
  rw [← hW] at HT
  have HP := Lib.hid (And.intro hr (And.intro hlen (And.intro hL (And.intro ha (And.intro hn (And.intro hb (And.intro hd (And.intro hs (And.intro hnow h)))))))))
  have HME := Lib.hid hm
  clear hr hlen hL ha hnow h hW hright hs hm
  go_enter Tryz.func82, Tryz.ntmps82
  go_upto_region 5 with (first
    | (go_at_call 121; (with_reducible refine (HI.out b HP.out.2.2.2.2.2.1 _).mono ?_); rintro en w3 ⟨rfl, rfl⟩)
    | (go_at_call 121; (with_reducible refine (HI.out d HP.out.2.2.2.2.2.2.1 _).mono ?_); rintro en w3 ⟨rfl, rfl⟩)
    | (go_at_call 73; (with_reducible refine (HR.out _).mono ?_); rintro en w3 ⟨rfl, B3⟩; rw [← HWE.out] at B3; have HK := Lib.hid (HT.out.step B3); clear B3))
  have hr6 := heap_alloc_new w3 (.cells #[.func (.func 122) #[] #[.pointer (some ⟨w.heap.size + 1, 0, none⟩), .pointer (some ⟨w.heap.size, 0, none⟩)]] 187)
  have B6 := (Below.refl w3.heap.size w3).alloc (Nat.le_refl _) (.cells #[.func (.func 122) #[] #[.pointer (some ⟨w.heap.size + 1, 0, none⟩), .pointer (some ⟨w.heap.size, 0, none⟩)]] 187)
  have HX := Lib.hid (And.intro (HK.out.step B6) hr6)
  clear B6 hr6
  have HZL := Lib.hid HK.out.bl.size
  go_upto_region 6 with (fail)
  generalize w3.alloc _ = w6 at *
  generalize w3.heap.size = z at *
  obtain ⟨m0, m1, -⟩ := row2 HX.out.1.r2
  obtain ⟨p0, p1, -⟩ := row2 HX.out.1.r1
  obtain ⟨b0, -⟩ := row1 HX.out.1.r0
  obtain ⟨x0, -⟩ := row1 HX.out.2
  obtain rfl := HME.out
  have hpo : ∀ (W : World) (e : E), Fr (fun k => v.ownBlock = some k) w6 W → e.Ok → Calls Tryz.prog 123 #[.agg #[.int .u32 (e.a : Int), .int .u8 (e.n : Int), .int .i64 (e.b : Int), .int .i64 (e.d : Int), .int .u16 (e.s : Int), .int .u16 (e.m : Int), .int .u64 (e.u : Int)], .pointer (some ⟨z, 0, none⟩)] W fun en w' => en = .returned (.bool (e.key == key a n b)) ∧ Below W.heap.size W w' := fun W e F he => by
    have ho := fun k (hk : v.ownBlock = some k) => (own_lt HP.out.2.2.2.2.2.2.2.2.2.own hk).2
    have hzl : w.heap.size ≤ z := HZL.out
    exact tellp_any W e he z (w.heap.size + 1) w.heap.size a n b HP.out.2.2.2.2.1 HP.out.2.2.2.2.2.1 (F.row HX.out.2 (fun e => by have := ho _ e; omega)) (F.row HX.out.1.r1 (fun e => by have := ho _ e; omega)) (F.row HX.out.1.r0 (fun e => by have := ho _ e; omega))
  have c51 := forget_any w6 lo q v L HX.out.1.r (Nat.le_trans HP.out.2.1 (by decide)) HP.out.2.2.1 (fun e => e.key == key a n b) 123 z (enters_of Tryz.func123 (by kernel_rfl) rfl) hpo
  have HC := Lib.hid c51
  clear c51 hpo
  go_wp2_with (go_at_call 107; (with_reducible refine HC.out.mono ?_); rintro en w7 hmv; have HM := Lib.hid hmv; obtain ⟨rfl, -⟩ := hmv)
  go_ret
  exact ⟨rfl, (HM.out.from HX.out.1.bl).2⟩
set_option maxHeartbeats 1000000 in
theorem tell_put (w : World) (lo q : Nat) (v : Value) (L : List E) (h : RtsAt lo w q L v) (hr : Rising L) (hlen : L.length ≤ 200) (hL : ∀ e ∈ L, e.Ok) (a n b d s m now : Nat) (ha : a < 4294967296) (hn : n < 256) (hright : Pre.right a n = true) (hb : b < 16) (hd : d < 16) (hs : s < 65536) (hnow : now < 4000000000000000000) (hm : m < 65535) :
    Calls Tryz.prog 82 #[.pointer (some ⟨q, 0, none⟩), .int .i64 (b : Int), .agg #[.int .u32 (a : Int), .int .u8 (n : Int)], .int .i64 (d : Int), .agg #[.int .u16 (s : Int), .int .u16 (m : Int)], .int .u64 (now : Int)] w (MvSaid lo w q v (putE L ⟨a, n, b, d, s, m, now + 50⟩) (.returned (.int .i64 0))) := by
  have HR := Lib.hid (fun W => Pre.right_any a n ha (by omega) W)
  rw [hright] at HR
  have HI : Hid (∀ x : Nat, x < 16 → ∀ W, Calls Tryz.prog 121 #[.int .i64 (x : Int)] W fun e w' => e = .returned (.bool true) ∧ W = w') := Lib.hid isnode_any
  have HT := Lib.hid (TL.start (a := a) (n := n) (b := b) (s := s) (m := m) h)
  obtain ⟨W, hW⟩ : ∃ W, W = ((w.alloc (.cells #[.int .i64 (b : Int)] 3)).alloc (.cells #[.int .u32 (a : Int), .int .u8 (n : Int)] 30)).alloc (.cells #[.int .u16 (s : Int), .int .u16 (m : Int)] 48) := ⟨_, rfl⟩
  have HWE := Lib.hid hW
  rw [← hW] at HT
  have HP := Lib.hid (And.intro hr (And.intro hlen (And.intro hL (And.intro ha (And.intro hn (And.intro hb (And.intro hd (And.intro hs (And.intro hnow h)))))))))
  have HME := Lib.hid hm
  clear hr hlen hL ha hnow h hW hright hs hm
  go_enter Tryz.func82, Tryz.ntmps82
  go_upto_region 5 with (first
    | (go_at_call 121; (with_reducible refine (HI.out b HP.out.2.2.2.2.2.1 _).mono ?_); rintro en w3 ⟨rfl, rfl⟩)
    | (go_at_call 121; (with_reducible refine (HI.out d HP.out.2.2.2.2.2.2.1 _).mono ?_); rintro en w3 ⟨rfl, rfl⟩)
    | (go_at_call 73; (with_reducible refine (HR.out _).mono ?_); rintro en w3 ⟨rfl, B3⟩; rw [← HWE.out] at B3; have HK := Lib.hid (HT.out.step B3); clear B3))
  have hr6 := heap_alloc_new w3 (.cells #[.func (.func 122) #[] #[.pointer (some ⟨w.heap.size + 1, 0, none⟩), .pointer (some ⟨w.heap.size, 0, none⟩)]] 187)
  have B6 := (Below.refl w3.heap.size w3).alloc (Nat.le_refl _) (.cells #[.func (.func 122) #[] #[.pointer (some ⟨w.heap.size + 1, 0, none⟩), .pointer (some ⟨w.heap.size, 0, none⟩)]] 187)
  have HX := Lib.hid (And.intro (HK.out.step B6) hr6)
  clear B6 hr6
  have HZL := Lib.hid HK.out.bl.size
  go_upto_region 6 with (fail)
  generalize w3.alloc _ = w6 at *
  generalize w3.heap.size = z at *
  obtain ⟨m0, m1, -⟩ := row2 HX.out.1.r2
  obtain ⟨p0, p1, -⟩ := row2 HX.out.1.r1
  obtain ⟨b0, -⟩ := row1 HX.out.1.r0
  obtain ⟨x0, -⟩ := row1 HX.out.2
  have hm := HME.out
  have hm0 : ¬ ((m : Int) = 65535) := by omega
  have hm1 : ((m : Int) == 65535) = false := by simp; omega
  have hwr : IntKind.u64.wrap ((now : Int) + 50) = ((now + 50 : Nat) : Int) := by rw [IntKind.wrap_u64]; have := HP.out.2.2.2.2.2.2.2.2.1; omega
  have heo : E.Ok ⟨a, n, b, d, s, m, now + 50⟩ := ⟨HP.out.2.2.2.1, HP.out.2.2.2.2.1, HP.out.2.2.2.2.2.1, HP.out.2.2.2.2.2.2.1, HP.out.2.2.2.2.2.2.2.1, hm, by show now + 50 < _; have := HP.out.2.2.2.2.2.2.2.2.1; omega⟩
  have c53 : Calls Tryz.prog 124 #[.pointer (some ⟨q, 0, none⟩), .agg #[.int .u32 (a : Int), .int .u8 (n : Int), .int .i64 (b : Int), .int .i64 (d : Int), .int .u16 (s : Int), .int .u16 (m : Int), .int .u64 ((now + 50 : Nat) : Int)], .func (.func 122) #[] #[.pointer (some ⟨w.heap.size + 1, 0, none⟩), .pointer (some ⟨w.heap.size, 0, none⟩)]] w6 (MvSaid lo w6 q v (putE L ⟨a, n, b, d, s, m, now + 50⟩) (.returned (.int .i64 0))) := by
    cases ht : there (E.key ⟨a, n, b, d, s, m, now + 50⟩) L with
    | true => exact keep_there w6 lo q L v HX.out.1.r HP.out.1 HP.out.2.2.1 HP.out.2.1 ⟨a, n, b, d, s, m, now + 50⟩ heo (w.heap.size + 1) w.heap.size HX.out.1.r1 HX.out.1.r0 ht
    | false => exact keep_new w6 lo q L v HX.out.1.r HP.out.1 HP.out.2.2.1 HP.out.2.1 ⟨a, n, b, d, s, m, now + 50⟩ heo (w.heap.size + 1) w.heap.size HX.out.1.r1 HX.out.1.r0 ht
  have HC := Lib.hid c53
  have hbz : w.heap.size + 2 < w6.heap.size := (Array.getElem?_eq_some_iff.1 HX.out.1.r2).1
  have hzz : z < w6.heap.size := (Array.getElem?_eq_some_iff.1 HX.out.2).1
  clear c53 heo hm
  go_wp2_with (go_at_call 124; go_loud (refine HC.out.mono ?_); rintro en w7 hmv; have HM := Lib.hid hmv; obtain ⟨rfl, -⟩ := hmv)
  go_ret
  exact HM.out.from HX.out.1.bl
end Go.Proofs.YtjbogjbopgcbhaaGreatDoor.Rts
