/- find and keep. -/
import Derived.Test.YtkbhmdoichiinaaRf
namespace Go.Proofs.Ytkbhmdoichiinaa.Rts
open Pre Ser
open Go.Proofs.Ytkbhmdoichiinaa.Src (row1 row2)
open Go.ChangeShapes Go.WideShapes Go.ChangeAt Go.RowKit
set_option maxRecDepth 8000

set_option maxHeartbeats 1000000 in
theorem find_any (w : World) (lo q : Nat) (L : List E) (v : Value) (h : RtsAt lo w q L v) (hr : Rising L) (hL : ∀ e ∈ L, e.Ok) (hlen : L.length ≤ 1000) (pb yb a n b : Nat) (hn : n < 256) (hb : b < 16)
    (hp : w.heap[pb]? = some (.cells #[.int .u32 (a : Int), .int .u8 (n : Int)] 39 (0, 0))) (hy : w.heap[yb]? = some (.cells #[.int .i64 (b : Int)] 3 (0, 0))) :
    Calls Try.prog 66 #[.pointer (some ⟨q, 0, none⟩), .func (.func 47) #[] #[.pointer (some ⟨pb, 0, none⟩), .pointer (some ⟨yb, 0, none⟩)]] w fun en w' => en = .returned (.tuple #[.int .i64 ((pos (key a n b) L : Nat) : Int), .bool (there (key a n b) L)]) ∧ Below w.heap.size w w' := by
  have B1 := ((Below.refl w.heap.size w).alloc (Nat.le_refl _) (.cells #[.pointer (some ⟨q, 0, none⟩)] 24)).alloc (by simp) (.cells #[.func (.func 47) #[] #[.pointer (some ⟨pb, 0, none⟩), .pointer (some ⟨yb, 0, none⟩)]] 97)
  have r0 : ((w.alloc (.cells #[.pointer (some ⟨q, 0, none⟩)] 24)).alloc (.cells #[.func (.func 47) #[] #[.pointer (some ⟨pb, 0, none⟩), .pointer (some ⟨yb, 0, none⟩)]] 97)).heap[w.heap.size]? = some (.cells #[.pointer (some ⟨q, 0, none⟩)] 24 (0, 0)) := (heap_alloc_old _ (.cells #[.func (.func 47) #[] #[.pointer (some ⟨pb, 0, none⟩), .pointer (some ⟨yb, 0, none⟩)]] 97) (by simp)).trans (heap_alloc_new w (.cells #[.pointer (some ⟨q, 0, none⟩)] 24))
  have r1 := Src.heap_new1 w (.cells #[.pointer (some ⟨q, 0, none⟩)] 24) (.cells #[.func (.func 47) #[] #[.pointer (some ⟨pb, 0, none⟩), .pointer (some ⟨yb, 0, none⟩)]] 97)
  obtain ⟨W, hW⟩ : ∃ W, W = (w.alloc (.cells #[.pointer (some ⟨q, 0, none⟩)] 24)).alloc (.cells #[.func (.func 47) #[] #[.pointer (some ⟨pb, 0, none⟩), .pointer (some ⟨yb, 0, none⟩)]] 97) := ⟨_, rfl⟩
  rw [← hW] at B1 r0 r1
  have hc := sfind_any W L (key a n b) (w.heap.size + 1) w.heap.size (fun k => if hk : k < L.length then -(ordV L[k] a n b) else 0) hlen hr
    (fun W' hB k hk => by
      have := find1_any W' lo q L v ((h.kept B1).kept hB) k hk hlen (w.heap.size + 1) w.heap.size pb yb a n b (brow hB r1) (brow hB r0) (brow hB (brow B1 hp)) (brow hB (brow B1 hy))
      simp only [dif_pos hk]
      exact this)
    (fun k hk => by
      have := hL _ (List.getElem_mem hk)
      simp only [dif_pos hk]
      rw [← ordV_lt this.n this.b hn hb]
      omega)
    (fun k hk => by
      have := hL _ (List.getElem_mem hk)
      simp only [dif_pos hk]
      rw [← ordV_eq this.n this.b hn hb]
      omega)
  obtain ⟨A, c, hv, -, -⟩ := h.own.form
  have HQ := row1 (brow B1 h.row)
  obtain ⟨x, hx⟩ : ∃ x, x = pos (key a n b) L := ⟨_, rfl⟩
  obtain ⟨y, hy'⟩ : ∃ y, y = there (key a n b) L := ⟨_, rfl⟩
  rw [← hx, ← hy'] at hc ⊢
  rw [hv] at HQ
  have HC := Lib.hid (And.intro hc B1)
  rw [hW] at r0 HQ
  have HWE := Lib.hid hW
  obtain ⟨q0, -⟩ := HQ
  obtain ⟨t0, -⟩ := row1 r0
  have r1' := r1
  rw [hW] at r1'
  obtain ⟨s0, -⟩ := row1 r1'
  clear hc B1 r0 r1 hW hx hy' hp hy h hr hL hv hlen hn hb r1'
  go_enter Try.func66, Try.ntmps66
  go_wp2_with (go_at_call 70; rw [← HWE.out]; (with_reducible refine HC.out.1.mono ?_); rintro en w3 ⟨rfl, B3⟩; have H3 := Lib.hid (HC.out.2.trans (B3.mono HC.out.2.size)); clear B3)
  exact bodyPost_ret (v := .tuple #[.int .i64 (x : Int), .bool y]) (by simp [results, Try.results66, go_sem]) rfl ⟨rfl, H3.out⟩
/-- What a call on routes says: what is told then, and that all else is as it was. -/
def MvSaid (lo : Nat) (w : World) (q : Nat) (v : Value) (L' : List E) (ans : Ending) (e : Ending) (w' : World) : Prop :=
  e = ans ∧ ∃ v', RtsAt lo w' q L' v' ∧ Fr (Xr q v) w w' ∧ Later w v v'
theorem own_lt {w : World} {B : Nat} {v : Value} {es : List E} (h : EOwn w B v es) {b : Nat} (e : v.ownBlock = some b) : B ≤ b ∧ b < w.heap.size := by
  rcases h.2 with ⟨hv, -⟩ | ⟨g, cap, cur, hv, hB, hg, -⟩
  · rw [hv] at e; cases e
  · rw [hv] at e
    have e : some g = some b := e
    injection e with e; subst e
    exact ⟨hB, (Array.getElem?_eq_some_iff.1 hg).1⟩
/-- What stands while one is put in: the routes, and the box of what is told. -/
structure KT (lo : Nat) (w W : World) (q : Nat) (L : List E) (v : Value) (e : E) : Prop where
  b : Below w.heap.size w W
  r : RtsAt lo W q L v
  x : W.heap[w.heap.size]? = some (.cells #[.int .u32 (e.a : Int), .int .u8 (e.n : Int), .int .i64 (e.b : Int), .int .i64 (e.d : Int), .int .u16 (e.s : Int), .int .u16 (e.m : Int), .int .u64 (e.u : Int)] 43 (0, 0))
theorem KT.step {lo : Nat} {w W W' : World} {q : Nat} {L : List E} {v : Value} {e : E} (h : KT lo w W q L v e) (B : Below W.heap.size W W') : KT lo w W' q L v e :=
  ⟨h.b.trans (B.mono h.b.size), h.r.kept B, brow B h.x⟩
theorem KT.start {lo : Nat} {w : World} {q : Nat} {L : List E} {v : Value} {e : E} (h : RtsAt lo w q L v) : KT lo w (w.alloc (.cells #[.int .u32 (e.a : Int), .int .u8 (e.n : Int), .int .i64 (e.b : Int), .int .i64 (e.d : Int), .int .u16 (e.s : Int), .int .u16 (e.m : Int), .int .u64 (e.u : Int)] 43)) q L v e :=
  have B1 := (Below.refl w.heap.size w).alloc (Nat.le_refl _) (.cells #[.int .u32 (e.a : Int), .int .u8 (e.n : Int), .int .i64 (e.b : Int), .int .i64 (e.d : Int), .int .u16 (e.s : Int), .int .u16 (e.m : Int), .int .u64 (e.u : Int)] 43)
  ⟨B1, h.kept B1, heap_alloc_new w (.cells #[.int .u32 (e.a : Int), .int .u8 (e.n : Int), .int .i64 (e.b : Int), .int .i64 (e.d : Int), .int .u16 (e.s : Int), .int .u16 (e.m : Int), .int .u64 (e.u : Int)] 43)⟩
set_option maxHeartbeats 1000000 in
theorem keep_there (w : World) (lo q : Nat) (L : List E) (v : Value) (h : RtsAt lo w q L v) (hr : Rising L) (hL : ∀ e ∈ L, e.Ok) (hlen : L.length ≤ 200) (e : E) (he : e.Ok) (pb yb : Nat) (hp : w.heap[pb]? = some (.cells #[.int .u32 (e.a : Int), .int .u8 (e.n : Int)] 39 (0, 0))) (hy : w.heap[yb]? = some (.cells #[.int .i64 (e.b : Int)] 3 (0, 0))) (ht : there e.key L = true) :
    Calls Try.prog 53 #[.pointer (some ⟨q, 0, none⟩), .agg #[.int .u32 (e.a : Int), .int .u8 (e.n : Int), .int .i64 (e.b : Int), .int .i64 (e.d : Int), .int .u16 (e.s : Int), .int .u16 (e.m : Int), .int .u64 (e.u : Int)], .func (.func 47) #[] #[.pointer (some ⟨pb, 0, none⟩), .pointer (some ⟨yb, 0, none⟩)]] w (MvSaid lo w q v (putE L e) (.returned (.int .i64 0))) := by
  have K0 := KT.start (e := e) h
  have hf := find_any _ lo q L v K0.r hr hL (by omega) pb yb e.a e.n e.b he.n he.b (brow K0.b hp) (brow K0.b hy)
  rw [show key e.a e.n e.b = e.key from rfl, ht] at hf
  obtain ⟨W, hW⟩ : ∃ W, W = w.alloc (.cells #[.int .u32 (e.a : Int), .int .u8 (e.n : Int), .int .i64 (e.b : Int), .int .i64 (e.d : Int), .int .u16 (e.s : Int), .int .u16 (e.m : Int), .int .u64 (e.u : Int)] 43) := ⟨_, rfl⟩
  rw [← hW] at K0 hf
  have HWE := Lib.hid hW
  clear hW hp hy
  have hpl : pos e.key L < L.length := by
    unfold there at ht
    split at ht
    · rename_i h2; exact (List.getElem?_eq_some_iff.1 h2).1
    · cases ht
  have hput : putE L e = L.set (pos e.key L) e := by
    unfold putE
    rw [ht, List.set_eq_take_append_cons_drop, if_pos hpl]; rfl
  rw [hput]
  obtain ⟨x, hx⟩ : ∃ x, x = pos e.key L := ⟨_, rfl⟩
  rw [← hx] at hpl hf ⊢
  clear hput ht hr hL he hx
  obtain ⟨g, c, cur, hv, hBg, hg, h4, h5, -, -, -⟩ := h.own.rows (by omega)
  have hgl := (Array.getElem?_eq_some_iff.1 hg).1
  have hgq : ¬ q = g := fun e => h.ne (by rw [hv, e]; rfl)
  subst hv
  obtain ⟨n, hn⟩ : ∃ n, n = L.length := ⟨_, rfl⟩
  have HF := Lib.hid hf
  have HK0 := Lib.hid K0
  rw [← hn] at h4 hlen
  have hxn : x < n := by omega
  have HG := Lib.hid (And.intro hpl (And.intro hgq (And.intro (show ¬ w.heap.size = g by omega) (And.intro hn (And.intro h.lt hgl)))))
  clear hf K0 hg h hpl hgq hn hgl
  go_enter Try.func53, Try.ntmps53
  go_upto_region 3 with (go_at_call 66; rw [← HWE.out]; (with_reducible refine HF.out.mono ?_); rintro en w3 ⟨rfl, B3⟩; have HK := Lib.hid (HK0.out.step B3); clear B3)
  rw [← HG.out.2.2.2.1] at HK
  have HE : Hid (EAt w3.drew g (x * 7) (L[x]'HG.out.1) ∧ g < w3.drew.heap.size ∧ ∀ i, w3.drew.frozen? ⟨g, i, none⟩ = false) := by
    obtain ⟨g', c', cur, hv, hBg, hg, h4, h5, -, -, hE⟩ := HK.out.r.own.rows (by have := HG.out.1; omega)
    obtain ⟨rfl, -, -, -⟩ := slice_inj hv
    exact ⟨(hE x HG.out.1).keep (w' := w3.drew) rfl, (Array.getElem?_eq_some_iff.1 hg).1, fun i => frozen_of_row w3.drew g i _ 43 hg⟩
  have HO := Lib.hid (HK.out.r.own.kept ((Below.refl _ w3).drew))
  have hFd : Fr (fun k => k = g) w3 w3.drew := Fr.of ((Below.refl _ w3).drew)
  refine wp_region_noPanic ?_
  refine wp_region_held_drew (S := fun y : World => Fr (fun k => k = g) w3 y) (by kernel_rfl) hFd (fun hHeld => ?_)
  generalize w3.drew = wd at *
  refine wpAnyH_take (i := 0) (oi := { dst := some 16, op := Op.move (Operand.tmp 0), type := 24, pos := "routes.go:61", after := #[], guard := none }) (v := .pointer (some ⟨q, 0, none⟩)) rfl (by kernel_rfl) (by kernel_rfl) (by kernel_rfl) (fun _ _ _ h => h) (Or.inl ⟨by rfl, fun w hSw => by go_simp⟩) (by assumption) ?_
  try simp only [Act.put, List.setIfInBounds_toArray, List.set_cons_zero, List.set_cons_succ]
  refine wpAnyH_take (i := 1) (oi := { dst := some 17, op := Op.nilCheck (Operand.tmp 16), type := 0, pos := "routes.go:61", after := #[{ on := 0, ground := Ground.data }], guard := none }) (v := .pointer (some ⟨q, 0, none⟩)) rfl (by kernel_rfl) (by kernel_rfl) (by kernel_rfl) (fun _ _ _ h => h) (Or.inl ⟨by rfl, fun w hSw => by go_simp⟩) (by assumption) ?_
  try simp only [Act.put, List.setIfInBounds_toArray, List.set_cons_zero, List.set_cons_succ]
  refine wpAnyH_take (i := 2) (oi := { dst := some 18, op := Op.fieldAddr 72 (Operand.tmp 17) 0, type := 0, pos := "routes.go:61", after := #[{ on := 1, ground := Ground.data }], guard := none }) (v := .pointer (some ⟨q, 0, none⟩)) rfl (by kernel_rfl) (by kernel_rfl) (by kernel_rfl) (fun _ _ _ h => h) (Or.inl ⟨by rfl, fun w hSw => by go_simp⟩) (by assumption) ?_
  try simp only [Act.put, List.setIfInBounds_toArray, List.set_cons_zero, List.set_cons_succ]
  refine wpAnyH_take (i := 3) (oi := { dst := some 19, op := Op.load 26 (Operand.tmp 18), type := 26, pos := "routes.go:61", after := #[{ on := 2, ground := Ground.data }], guard := none }) (v := .slice (some ⟨g, 0, none⟩) n c) rfl (by kernel_rfl) (by kernel_rfl) (by kernel_rfl) (fun _ _ _ h => h) (Or.inl ⟨by rfl, fun w hSw => by obtain ⟨q0, -⟩ := row1 (hSw.row HK.out.r.row HG.out.2.1); go_simp⟩) (by assumption) ?_
  try simp only [Act.put, List.setIfInBounds_toArray, List.set_cons_zero, List.set_cons_succ]
  refine wpAnyH_take (i := 4) (oi := { dst := some 20, op := Op.move (Operand.tmp 7), type := 3, pos := "routes.go:61", after := #[], guard := none }) (v := .int .i64 (x : Int)) rfl (by kernel_rfl) (by kernel_rfl) (by kernel_rfl) (fun _ _ _ h => h) (Or.inl ⟨by rfl, fun w hSw => by go_simp⟩) (by assumption) ?_
  try simp only [Act.put, List.setIfInBounds_toArray, List.set_cons_zero, List.set_cons_succ]
  refine wpAnyH_take (i := 5) (oi := { dst := some 21, op := Op.load 43 (Operand.tmp 4), type := 43, pos := "routes.go:61", after := #[], guard := none }) (v := .agg #[.int .u32 (e.a : Int), .int .u8 (e.n : Int), .int .i64 (e.b : Int), .int .i64 (e.d : Int), .int .u16 (e.s : Int), .int .u16 (e.m : Int), .int .u64 (e.u : Int)]) rfl (by kernel_rfl) (by kernel_rfl) (by kernel_rfl) (fun _ _ _ h => h) (Or.inl ⟨by rfl, fun w hSw => by obtain ⟨p0, p1, p2, p3, p4, p5, p6⟩ := row7 (hSw.row HK.out.x HG.out.2.2.1); go_simp⟩) (by assumption) ?_
  try simp only [Act.put, List.setIfInBounds_toArray, List.set_cons_zero, List.set_cons_succ]
  refine wpAnyH_take (i := 6) (oi := { dst := some 22, op := Op.indexAddr 26 (Operand.tmp 19) (Operand.tmp 20), type := 0, pos := "routes.go:61", after := #[{ on := 3, ground := Ground.data }, { on := 4, ground := Ground.data }, { on := 0, ground := Ground.phase }, { on := 1, ground := Ground.phase }, { on := 2, ground := Ground.phase }, { on := 3, ground := Ground.phase }, { on := 4, ground := Ground.phase }, { on := 5, ground := Ground.phase }], guard := none }) (v := .pointer (some ⟨g, x * 7, none⟩)) rfl (by kernel_rfl) (by kernel_rfl) (by kernel_rfl) (fun _ _ _ h => h) (Or.inl ⟨by rfl, fun w hSw => by go_simp⟩) (by assumption) ?_
  try simp only [Act.put, List.setIfInBounds_toArray, List.set_cons_zero, List.set_cons_succ]
  refine wpAnyH_ready (rs := [7]) (by kernel_rfl) (by simp) ?_
  refine AllReadyH.cons (o := { dst := none, op := Op.store 43 (Operand.tmp 22) (Operand.tmp 21), type := 0, pos := "routes.go:61", after := #[{ on := 6, ground := Ground.data }, { on := 5, ground := Ground.data }, { on := 0, ground := Ground.phase }, { on := 1, ground := Ground.phase }, { on := 2, ground := Ground.phase }, { on := 3, ground := Ground.phase }, { on := 4, ground := Ground.phase }, { on := 5, ground := Ground.phase }], guard := none }) rfl (fun K hK => ?_) AllReadyH.nil
  obtain ⟨c0, c1, c2, c3, c4, c5, c6⟩ := HE.out.1
  have hfz := HE.out.2.2
  have hgl := HE.out.2.1
  go_simp
  refine hK.out _ _ (hHeld.trans (Fr.grown (grown7 wd g (x * 7) _ _ _ _ _ _ _) (fun k e => (Option.some.inj e).symm))) (fun hHeld2 => ?_)
  clear hK K hHeld
  have hHeld := hHeld2
  clear hHeld2
  try simp only [Act.put, List.setIfInBounds_toArray, List.set_cons_zero, List.set_cons_succ]
  clear c0 c1 c2 c3 c4 c5 c6 hfz hgl
  have HP := Lib.hid (And.intro (EOwn.put HO.out HG.out.1 e (by rfl)) hHeld)
  clear hHeld hFd
  generalize (((((((wd.setCell _ _).setCell _ _).setCell _ _).setCell _ _).setCell _ _).setCell _ _).setCell _ _) = w5 at *
  refine wpAnyH_done (by kernel_rfl) ?_ _
  try unfold NoPanic
  go_wp2
  go_ret
  refine ⟨rfl, .slice (some ⟨g, 0, none⟩) n c, ⟨HP.out.2.row HK.out.r.row HG.out.2.1, HP.out.1, HK.out.r.ne, HK.out.r.le⟩, ?_, Or.inl (by rw [HG.out.2.2.2.1])⟩
  exact (Fr.of HK.out.b).trans (HP.out.2.mono fun k _ e => Or.inr (by rw [e]; rfl))
set_option maxHeartbeats 1000000 in
theorem keep_new (w : World) (lo q : Nat) (L : List E) (v : Value) (h : RtsAt lo w q L v) (hr : Rising L) (hL : ∀ e ∈ L, e.Ok) (hlen : L.length ≤ 200) (e : E) (he : e.Ok) (pb yb : Nat) (hp : w.heap[pb]? = some (.cells #[.int .u32 (e.a : Int), .int .u8 (e.n : Int)] 39 (0, 0))) (hy : w.heap[yb]? = some (.cells #[.int .i64 (e.b : Int)] 3 (0, 0))) (ht : there e.key L = false) :
    Calls Try.prog 53 #[.pointer (some ⟨q, 0, none⟩), .agg #[.int .u32 (e.a : Int), .int .u8 (e.n : Int), .int .i64 (e.b : Int), .int .i64 (e.d : Int), .int .u16 (e.s : Int), .int .u16 (e.m : Int), .int .u64 (e.u : Int)], .func (.func 47) #[] #[.pointer (some ⟨pb, 0, none⟩), .pointer (some ⟨yb, 0, none⟩)]] w (MvSaid lo w q v (putE L e) (.returned (.int .i64 0))) := by
  have K0 := KT.start (e := e) h
  have hf := find_any _ lo q L v K0.r hr hL (by omega) pb yb e.a e.n e.b he.n he.b (brow K0.b hp) (brow K0.b hy)
  rw [show key e.a e.n e.b = e.key from rfl, ht] at hf
  obtain ⟨W, hW⟩ : ∃ W, W = w.alloc (.cells #[.int .u32 (e.a : Int), .int .u8 (e.n : Int), .int .i64 (e.b : Int), .int .i64 (e.d : Int), .int .u16 (e.s : Int), .int .u16 (e.m : Int), .int .u64 (e.u : Int)] 43) := ⟨_, rfl⟩
  rw [← hW] at K0 hf
  have HWE := Lib.hid hW
  clear hW hp hy
  have hput : L.take (pos e.key L) ++ e :: L.drop (pos e.key L) = putE L e := by
    unfold putE
    rw [ht]; rfl
  have hpl := pos_le e.key L
  obtain ⟨x, hx⟩ : ∃ x, x = pos e.key L := ⟨_, rfl⟩
  rw [← hx] at hpl hf hput
  clear ht hr hL he hx
  obtain ⟨A, c, hv, -, -⟩ := h.own.form
  have HF := Lib.hid hf
  have HK0 := Lib.hid K0
  have HG := Lib.hid (And.intro h.lt (And.intro (show ¬ (w.heap.size = q ∨ v.ownBlock = some w.heap.size) from fun e => by
    rcases e with e | e
    · have := h.lt; omega
    · have := (own_lt h.own e).2; omega) (And.intro hpl (And.intro hlen (And.intro hput (Nat.le_refl 0))))))
  have hlt : ¬ (256 : Int) ≤ (L.length : Int) := by omega
  clear hf K0 h hpl hput hlen
  go_enter Try.func53, Try.ntmps53
  go_upto_region 5 with (go_at_call 66; rw [← HWE.out]; (with_reducible refine HF.out.mono ?_); rintro en w3 ⟨rfl, B3⟩; have HK := Lib.hid (HK0.out.step B3); clear B3)
  obtain ⟨q0, -⟩ := row1 HK.out.r.row
  rw [hv] at q0
  go_upto_region 7 with (fail)
  clear q0 hlt
  have HQ := Lib.hid (And.intro (HK.out.step ((Below.refl _ w3).drew)) hv)
  clear hv
  have hFd : Fr (Xr q v) w3 w3.drew := Fr.of ((Below.refl _ w3).drew)
  have hHeld0 := Lib.hid hFd
  refine wp_region_noPanic ?_
  refine wp_region_held_drew (S := fun y : World => Fr (Xr q v) w3 y) (by kernel_rfl) hFd (fun hHeld => ?_)
  generalize w3.drew = wd at *
  refine wpAnyH_take (i := 0) (oi := { dst := some 29, op := Op.move (Operand.tmp 0), type := 24, pos := "routes.go:67", after := #[], guard := none }) (v := .pointer (some ⟨q, 0, none⟩)) rfl (by kernel_rfl) (by kernel_rfl) (by kernel_rfl) (fun _ _ _ h => h) (Or.inl ⟨by rfl, fun w hSw => by go_simp⟩) (by assumption) ?_
  try simp only [Act.put, List.setIfInBounds_toArray, List.set_cons_zero, List.set_cons_succ]
  refine wpAnyH_take (i := 1) (oi := { dst := some 30, op := Op.move (Operand.tmp 0), type := 24, pos := "routes.go:67", after := #[], guard := none }) (v := .pointer (some ⟨q, 0, none⟩)) rfl (by kernel_rfl) (by kernel_rfl) (by kernel_rfl) (fun _ _ _ h => h) (Or.inl ⟨by rfl, fun w hSw => by go_simp⟩) (by assumption) ?_
  try simp only [Act.put, List.setIfInBounds_toArray, List.set_cons_zero, List.set_cons_succ]
  refine wpAnyH_take (i := 2) (oi := { dst := some 31, op := Op.nilCheck (Operand.tmp 30), type := 0, pos := "routes.go:67", after := #[{ on := 1, ground := Ground.data }], guard := none }) (v := .pointer (some ⟨q, 0, none⟩)) rfl (by kernel_rfl) (by kernel_rfl) (by kernel_rfl) (fun _ _ _ h => h) (Or.inl ⟨by rfl, fun w hSw => by go_simp⟩) (by assumption) ?_
  try simp only [Act.put, List.setIfInBounds_toArray, List.set_cons_zero, List.set_cons_succ]
  refine wpAnyH_take (i := 3) (oi := { dst := some 32, op := Op.fieldAddr 72 (Operand.tmp 31) 0, type := 0, pos := "routes.go:67", after := #[{ on := 2, ground := Ground.data }], guard := none }) (v := .pointer (some ⟨q, 0, none⟩)) rfl (by kernel_rfl) (by kernel_rfl) (by kernel_rfl) (fun _ _ _ h => h) (Or.inl ⟨by rfl, fun w hSw => by go_simp⟩) (by assumption) ?_
  try simp only [Act.put, List.setIfInBounds_toArray, List.set_cons_zero, List.set_cons_succ]
  refine wpAnyH_take (i := 5) (oi := { dst := some 34, op := Op.move (Operand.tmp 7), type := 3, pos := "routes.go:67", after := #[], guard := none }) (v := .int .i64 (x : Int)) rfl (by kernel_rfl) (by kernel_rfl) (by kernel_rfl) (fun _ _ _ h => h) (Or.inl ⟨by rfl, fun w hSw => by go_simp⟩) (by assumption) ?_
  try simp only [Act.put, List.setIfInBounds_toArray, List.set_cons_zero, List.set_cons_succ]
  refine wpAnyH_take (i := 6) (oi := { dst := some 35, op := Op.load 43 (Operand.tmp 4), type := 43, pos := "routes.go:67", after := #[], guard := none }) (v := .agg #[.int .u32 (e.a : Int), .int .u8 (e.n : Int), .int .i64 (e.b : Int), .int .i64 (e.d : Int), .int .u16 (e.s : Int), .int .u16 (e.m : Int), .int .u64 (e.u : Int)]) rfl (by kernel_rfl) (by kernel_rfl) (by kernel_rfl) (fun _ _ _ h => h) (Or.inl ⟨by rfl, fun w hSw => by obtain ⟨p0, p1, p2, p3, p4, p5, p6⟩ := row7 (hSw.row HK.out.x HG.out.2.1); go_simp⟩) (by assumption) ?_
  try simp only [Act.put, List.setIfInBounds_toArray, List.set_cons_zero, List.set_cons_succ]
  refine wpAnyH_ready (rs := [4, 7]) (by kernel_rfl) (by simp) ?_
  refine (AllReadyH.cons (o := { dst := some 33, op := Op.load 26 (Operand.tmp 32), type := 26, pos := "routes.go:67", after := #[{ on := 3, ground := Ground.data }], guard := none }) rfl (fun K hK => ?_) (AllReadyH.cons (o := { dst := some 36, op := Op.buildSlice 26 1 #[(0, Operand.tmp 35)], type := 26, pos := "routes.go:67", after := #[{ on := 6, ground := Ground.data }], guard := none }) rfl (fun K hK => ?_) AllReadyH.nil))
  · have hq := HQ.out
    obtain ⟨q0, -⟩ := row1 (hq.2 ▸ hq.1.r.row)
    go_simp
    refine hK.out _ _ (hHeld) (fun hHeld2 => ?_)
    clear hK K hHeld
    have hHeld := hHeld2
    clear hHeld2
    try simp only [Act.put, List.setIfInBounds_toArray, List.set_cons_zero, List.set_cons_succ]
    clear q0 hq
    refine wpAnyH_ready (rs := [7]) (by kernel_rfl) (by simp) ?_
    refine (AllReadyH.cons (o := { dst := some 36, op := Op.buildSlice 26 1 #[(0, Operand.tmp 35)], type := 26, pos := "routes.go:67", after := #[{ on := 6, ground := Ground.data }], guard := none }) rfl (fun K hK => ?_) AllReadyH.nil)
    go_simp
    refine hK.out _ _ (hHeld.step ((Below.refl _ _).alloc (Nat.le_refl _) (.cells #[.int .u32 (e.a : Int), .int .u8 (e.n : Int), .int .i64 (e.b : Int), .int .i64 (e.d : Int), .int .u16 (e.s : Int), .int .u16 (e.m : Int), .int .u64 (e.u : Int)] 43))) (fun hHeld2 => ?_)
    clear hK K hHeld
    have hHeld := hHeld2
    clear hHeld2
    try simp only [Act.put, List.setIfInBounds_toArray, List.set_cons_zero, List.set_cons_succ]
    have HA := Lib.hid (And.intro (HQ.out.1.step ((Below.refl _ _).alloc (Nat.le_refl _) (.cells #[.int .u32 (e.a : Int), .int .u8 (e.n : Int), .int .i64 (e.b : Int), .int .i64 (e.d : Int), .int .u16 (e.s : Int), .int .u16 (e.m : Int), .int .u64 (e.u : Int)] 43))) (heap_alloc_new wd (.cells #[.int .u32 (e.a : Int), .int .u8 (e.n : Int), .int .i64 (e.b : Int), .int .i64 (e.d : Int), .int .u16 (e.s : Int), .int .u16 (e.m : Int), .int .u64 (e.u : Int)] 43)))
    have hzn : ¬ (wd.heap.size < w3.heap.size) := by have := hHeld0.out.size; omega
    generalize wd.alloc _ = wa at *
    generalize wd.heap.size = z at *
    refine wpAnyH_ready (rs := [8]) (by kernel_rfl) (by simp) ?_
    refine AllReadyH.cons (o := { dst := some 37, op := Op.call { callee := Callee.value (Operand.func 67), args := #[Operand.tmp 33, Operand.tmp 34, Operand.tmp 36], argTypes := #[26, 3, 26] }, type := 26, pos := "routes.go:67", after := #[{ on := 4, ground := Ground.data }, { on := 5, ground := Ground.data }, { on := 7, ground := Ground.data }], guard := none }) rfl (fun K hK => ?_) AllReadyH.nil
    have hz : v.ownBlock ≠ some z := fun e => hzn (own_lt HK.out.r.own e).2
    have c67 := ins_any wa lo v L e x z HA.out.1.r.own HA.out.2 hz HG.out.2.2.1 (by have := HG.out.2.2.2.1; omega) (by have := HA.out.1.r.le; have := HA.out.1.r.lt; omega)
    rw [HG.out.2.2.2.2.1] at c67
    have c67 : Calls Try.prog 67 #[.slice A L.length c, .int .i64 (x : Int), .slice (some ⟨z, 0, none⟩) 1 1] wa (InsSaid wa lo v (putE L e)) := by rw [← HQ.out.2]; exact c67
    go_simp
    with_reducible refine c67.mono ?_
    rintro en w5 ⟨v', rfl, O5, G5, L5⟩
    obtain ⟨A5, c5, hv5, -, -⟩ := O5.form
    have H5 := Lib.hid (And.intro O5 (And.intro G5 (And.intro L5 hv5)))
    clear c67 O5 L5 hz
    refine hK.out _ _ (hHeld.trans (Fr.grown G5 (fun k e => Or.inr e))) (fun hHeld2 => ?_)
    clear hK K hHeld G5
    have hHeld := hHeld2
    clear hHeld2
    try simp only [Act.put, List.setIfInBounds_toArray, List.set_cons_zero, List.set_cons_succ]
    have hrow : w5.heap[q]? = some (.cells #[v] 72 (0, 0)) := (H5.out.2.1.block q HA.out.1.r.lt (fun e => HK.out.r.ne e.symm)).trans HA.out.1.r.row
    have HR5 := Lib.hid hrow
    clear hrow
    subst hv5
    refine wpAnyH_take (i := 9) (oi := { dst := some 38, op := Op.nilCheck (Operand.tmp 29), type := 0, pos := "routes.go:67", after := #[{ on := 0, ground := Ground.data }, { on := 0, ground := Ground.phase }, { on := 1, ground := Ground.phase }, { on := 2, ground := Ground.phase }, { on := 3, ground := Ground.phase }, { on := 4, ground := Ground.phase }, { on := 5, ground := Ground.phase }, { on := 6, ground := Ground.phase }, { on := 7, ground := Ground.phase }, { on := 8, ground := Ground.phase }], guard := none }) (v := .pointer (some ⟨q, 0, none⟩)) rfl (by kernel_rfl) (by kernel_rfl) (by kernel_rfl) (fun _ _ _ h => h) (Or.inl ⟨by rfl, fun w hSw => by go_simp⟩) (by assumption) ?_
    try simp only [Act.put, List.setIfInBounds_toArray, List.set_cons_zero, List.set_cons_succ]
    refine wpAnyH_take (i := 10) (oi := { dst := some 39, op := Op.fieldAddr 72 (Operand.tmp 38) 0, type := 0, pos := "routes.go:67", after := #[{ on := 9, ground := Ground.data }, { on := 0, ground := Ground.phase }, { on := 1, ground := Ground.phase }, { on := 2, ground := Ground.phase }, { on := 3, ground := Ground.phase }, { on := 4, ground := Ground.phase }, { on := 5, ground := Ground.phase }, { on := 6, ground := Ground.phase }, { on := 7, ground := Ground.phase }, { on := 8, ground := Ground.phase }], guard := none }) (v := .pointer (some ⟨q, 0, none⟩)) rfl (by kernel_rfl) (by kernel_rfl) (by kernel_rfl) (fun _ _ _ h => h) (Or.inl ⟨by rfl, fun w hSw => by go_simp⟩) (by assumption) ?_
    try simp only [Act.put, List.setIfInBounds_toArray, List.set_cons_zero, List.set_cons_succ]
    refine wpAnyH_ready (rs := [11]) (by kernel_rfl) (by simp) ?_
    refine AllReadyH.cons (o := { dst := none, op := Op.store 26 (Operand.tmp 39) (Operand.tmp 37), type := 0, pos := "routes.go:67", after := #[{ on := 10, ground := Ground.data }, { on := 8, ground := Ground.data }, { on := 8, ground := Ground.chain }, { on := 0, ground := Ground.phase }, { on := 1, ground := Ground.phase }, { on := 2, ground := Ground.phase }, { on := 3, ground := Ground.phase }, { on := 4, ground := Ground.phase }, { on := 5, ground := Ground.phase }, { on := 6, ground := Ground.phase }, { on := 7, ground := Ground.phase }, { on := 8, ground := Ground.phase }], guard := none }) rfl (fun K hK => ?_) AllReadyH.nil
    obtain ⟨r0, rf⟩ := row1 HR5.out
    have hql : q < w5.heap.size := (Array.getElem?_eq_some_iff.1 HR5.out).1
    go_simp
    refine hK.out _ _ (hHeld.trans (Fr.grown (grown_setCell w5 q 0 _) (fun k e => Or.inl (Option.some.inj e).symm))) (fun hHeld2 => ?_)
    clear hK K hHeld r0 rf hql
    have HZ := Lib.hid (And.intro (heap_setCell_same w5 q 0 _ 72 (.slice A5 (putE L e).length c5) HR5.out) (And.intro (H5.out.1.fr (X := fun k => k = q) (Fr.grown (grown_setCell w5 q 0 (.slice A5 (putE L e).length c5)) (fun k e => (Option.some.inj e).symm)) (fun b e0 e1 => by
      subst e1
      rcases H5.out.2.2.1 with h | h
      · exact HK.out.r.ne (h.symm.trans e0)
      · rw [e0] at h; have h := Option.some.inj h; have := HA.out.1.r.lt; omega)) (And.intro hHeld2 H5.out.2.2.1)))
    clear hHeld2
    try simp only [Act.put, List.setIfInBounds_toArray, List.set_cons_zero, List.set_cons_succ]
    generalize w5.setCell _ _ = w6 at *
    refine wpAnyH_done (by kernel_rfl) ?_ _
    try unfold NoPanic
    go_wp2
    go_ret
    refine ⟨rfl, _, ⟨HZ.out.1, HZ.out.2.1, ?_, HK.out.r.le⟩, (Fr.of HK.out.b).trans (HZ.out.2.2.1.mono fun k _ e => e), ?_⟩
    · rcases HZ.out.2.2.2 with h | h
      · exact fun e => HK.out.r.ne (h.symm.trans e)
      · exact fun e => by rw [h] at e; have e := Option.some.inj e; have := HA.out.1.r.lt; omega
    · rcases HZ.out.2.2.2 with h | h
      · exact Or.inl h
      · exact Or.inr fun b e => by rw [h] at e; have e := Option.some.inj e; have h1 := HA.out.1.b.size; have h2 := HK.out.b.size; omega
  · go_simp
    refine hK.out _ _ (hHeld.step ((Below.refl _ _).alloc (Nat.le_refl _) (.cells #[.int .u32 (e.a : Int), .int .u8 (e.n : Int), .int .i64 (e.b : Int), .int .i64 (e.d : Int), .int .u16 (e.s : Int), .int .u16 (e.m : Int), .int .u64 (e.u : Int)] 43))) (fun hHeld2 => ?_)
    clear hK K hHeld
    have hHeld := hHeld2
    clear hHeld2
    try simp only [Act.put, List.setIfInBounds_toArray, List.set_cons_zero, List.set_cons_succ]
    have HQ0 := Lib.hid (HQ.out.1.step ((Below.refl _ _).alloc (Nat.le_refl _) (.cells #[.int .u32 (e.a : Int), .int .u8 (e.n : Int), .int .i64 (e.b : Int), .int .i64 (e.d : Int), .int .u16 (e.s : Int), .int .u16 (e.m : Int), .int .u64 (e.u : Int)] 43)))
    refine wpAnyH_ready (rs := [4]) (by kernel_rfl) (by simp) ?_
    refine (AllReadyH.cons (o := { dst := some 33, op := Op.load 26 (Operand.tmp 32), type := 26, pos := "routes.go:67", after := #[{ on := 3, ground := Ground.data }], guard := none }) rfl (fun K hK => ?_) AllReadyH.nil)
    obtain ⟨q0, -⟩ := row1 (HQ.out.2 ▸ HQ0.out.r.row)
    go_simp
    refine hK.out _ _ (hHeld) (fun hHeld2 => ?_)
    clear hK K hHeld
    have hHeld := hHeld2
    clear hHeld2
    try simp only [Act.put, List.setIfInBounds_toArray, List.set_cons_zero, List.set_cons_succ]
    clear q0 HQ0
    have HA := Lib.hid (And.intro (HQ.out.1.step ((Below.refl _ _).alloc (Nat.le_refl _) (.cells #[.int .u32 (e.a : Int), .int .u8 (e.n : Int), .int .i64 (e.b : Int), .int .i64 (e.d : Int), .int .u16 (e.s : Int), .int .u16 (e.m : Int), .int .u64 (e.u : Int)] 43))) (heap_alloc_new wd (.cells #[.int .u32 (e.a : Int), .int .u8 (e.n : Int), .int .i64 (e.b : Int), .int .i64 (e.d : Int), .int .u16 (e.s : Int), .int .u16 (e.m : Int), .int .u64 (e.u : Int)] 43)))
    have hzn : ¬ (wd.heap.size < w3.heap.size) := by have := hHeld0.out.size; omega
    generalize wd.alloc _ = wa at *
    generalize wd.heap.size = z at *
    refine wpAnyH_ready (rs := [8]) (by kernel_rfl) (by simp) ?_
    refine AllReadyH.cons (o := { dst := some 37, op := Op.call { callee := Callee.value (Operand.func 67), args := #[Operand.tmp 33, Operand.tmp 34, Operand.tmp 36], argTypes := #[26, 3, 26] }, type := 26, pos := "routes.go:67", after := #[{ on := 4, ground := Ground.data }, { on := 5, ground := Ground.data }, { on := 7, ground := Ground.data }], guard := none }) rfl (fun K hK => ?_) AllReadyH.nil
    have hz : v.ownBlock ≠ some z := fun e => hzn (own_lt HK.out.r.own e).2
    have c67 := ins_any wa lo v L e x z HA.out.1.r.own HA.out.2 hz HG.out.2.2.1 (by have := HG.out.2.2.2.1; omega) (by have := HA.out.1.r.le; have := HA.out.1.r.lt; omega)
    rw [HG.out.2.2.2.2.1] at c67
    have c67 : Calls Try.prog 67 #[.slice A L.length c, .int .i64 (x : Int), .slice (some ⟨z, 0, none⟩) 1 1] wa (InsSaid wa lo v (putE L e)) := by rw [← HQ.out.2]; exact c67
    go_simp
    with_reducible refine c67.mono ?_
    rintro en w5 ⟨v', rfl, O5, G5, L5⟩
    obtain ⟨A5, c5, hv5, -, -⟩ := O5.form
    have H5 := Lib.hid (And.intro O5 (And.intro G5 (And.intro L5 hv5)))
    clear c67 O5 L5 hz
    refine hK.out _ _ (hHeld.trans (Fr.grown G5 (fun k e => Or.inr e))) (fun hHeld2 => ?_)
    clear hK K hHeld G5
    have hHeld := hHeld2
    clear hHeld2
    try simp only [Act.put, List.setIfInBounds_toArray, List.set_cons_zero, List.set_cons_succ]
    have hrow : w5.heap[q]? = some (.cells #[v] 72 (0, 0)) := (H5.out.2.1.block q HA.out.1.r.lt (fun e => HK.out.r.ne e.symm)).trans HA.out.1.r.row
    have HR5 := Lib.hid hrow
    clear hrow
    subst hv5
    refine wpAnyH_take (i := 9) (oi := { dst := some 38, op := Op.nilCheck (Operand.tmp 29), type := 0, pos := "routes.go:67", after := #[{ on := 0, ground := Ground.data }, { on := 0, ground := Ground.phase }, { on := 1, ground := Ground.phase }, { on := 2, ground := Ground.phase }, { on := 3, ground := Ground.phase }, { on := 4, ground := Ground.phase }, { on := 5, ground := Ground.phase }, { on := 6, ground := Ground.phase }, { on := 7, ground := Ground.phase }, { on := 8, ground := Ground.phase }], guard := none }) (v := .pointer (some ⟨q, 0, none⟩)) rfl (by kernel_rfl) (by kernel_rfl) (by kernel_rfl) (fun _ _ _ h => h) (Or.inl ⟨by rfl, fun w hSw => by go_simp⟩) (by assumption) ?_
    try simp only [Act.put, List.setIfInBounds_toArray, List.set_cons_zero, List.set_cons_succ]
    refine wpAnyH_take (i := 10) (oi := { dst := some 39, op := Op.fieldAddr 72 (Operand.tmp 38) 0, type := 0, pos := "routes.go:67", after := #[{ on := 9, ground := Ground.data }, { on := 0, ground := Ground.phase }, { on := 1, ground := Ground.phase }, { on := 2, ground := Ground.phase }, { on := 3, ground := Ground.phase }, { on := 4, ground := Ground.phase }, { on := 5, ground := Ground.phase }, { on := 6, ground := Ground.phase }, { on := 7, ground := Ground.phase }, { on := 8, ground := Ground.phase }], guard := none }) (v := .pointer (some ⟨q, 0, none⟩)) rfl (by kernel_rfl) (by kernel_rfl) (by kernel_rfl) (fun _ _ _ h => h) (Or.inl ⟨by rfl, fun w hSw => by go_simp⟩) (by assumption) ?_
    try simp only [Act.put, List.setIfInBounds_toArray, List.set_cons_zero, List.set_cons_succ]
    refine wpAnyH_ready (rs := [11]) (by kernel_rfl) (by simp) ?_
    refine AllReadyH.cons (o := { dst := none, op := Op.store 26 (Operand.tmp 39) (Operand.tmp 37), type := 0, pos := "routes.go:67", after := #[{ on := 10, ground := Ground.data }, { on := 8, ground := Ground.data }, { on := 8, ground := Ground.chain }, { on := 0, ground := Ground.phase }, { on := 1, ground := Ground.phase }, { on := 2, ground := Ground.phase }, { on := 3, ground := Ground.phase }, { on := 4, ground := Ground.phase }, { on := 5, ground := Ground.phase }, { on := 6, ground := Ground.phase }, { on := 7, ground := Ground.phase }, { on := 8, ground := Ground.phase }], guard := none }) rfl (fun K hK => ?_) AllReadyH.nil
    obtain ⟨r0, rf⟩ := row1 HR5.out
    have hql : q < w5.heap.size := (Array.getElem?_eq_some_iff.1 HR5.out).1
    go_simp
    refine hK.out _ _ (hHeld.trans (Fr.grown (grown_setCell w5 q 0 _) (fun k e => Or.inl (Option.some.inj e).symm))) (fun hHeld2 => ?_)
    clear hK K hHeld r0 rf hql
    have HZ := Lib.hid (And.intro (heap_setCell_same w5 q 0 _ 72 (.slice A5 (putE L e).length c5) HR5.out) (And.intro (H5.out.1.fr (X := fun k => k = q) (Fr.grown (grown_setCell w5 q 0 (.slice A5 (putE L e).length c5)) (fun k e => (Option.some.inj e).symm)) (fun b e0 e1 => by
      subst e1
      rcases H5.out.2.2.1 with h | h
      · exact HK.out.r.ne (h.symm.trans e0)
      · rw [e0] at h; have h := Option.some.inj h; have := HA.out.1.r.lt; omega)) (And.intro hHeld2 H5.out.2.2.1)))
    clear hHeld2
    try simp only [Act.put, List.setIfInBounds_toArray, List.set_cons_zero, List.set_cons_succ]
    generalize w5.setCell _ _ = w6 at *
    refine wpAnyH_done (by kernel_rfl) ?_ _
    try unfold NoPanic
    go_wp2
    go_ret
    refine ⟨rfl, _, ⟨HZ.out.1, HZ.out.2.1, ?_, HK.out.r.le⟩, (Fr.of HK.out.b).trans (HZ.out.2.2.1.mono fun k _ e => e), ?_⟩
    · rcases HZ.out.2.2.2 with h | h
      · exact fun e => HK.out.r.ne (h.symm.trans e)
      · exact fun e => by rw [h] at e; have e := Option.some.inj e; have := HA.out.1.r.lt; omega
    · rcases HZ.out.2.2.2 with h | h
      · exact Or.inl h
      · exact Or.inr fun b e => by rw [h] at e; have e := Option.some.inj e; have h1 := HA.out.1.b.size; have h2 := HK.out.b.size; omega
end Go.Proofs.Ytkbhmdoichiinaa.Rts
