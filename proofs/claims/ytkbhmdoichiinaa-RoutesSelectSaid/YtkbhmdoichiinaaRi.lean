/- What is thrown away: forget, Tick, Drop; all that is told. -/
import Derived.Test.YtkbhmdoichiinaaRh
namespace Go.Proofs.Ytkbhmdoichiinaa.Rts
open Pre Ser
open Go.Proofs.Ytkbhmdoichiinaa.Src (row1 row2)
open Go.ChangeShapes Go.WideShapes Go.ChangeAt Go.RowKit
set_option maxRecDepth 8000

theorem mv_store {lo : Nat} {w w5 : World} {q : Nat} {v v' : Value} {L' : List E} (ans : Ending) (row : w5.heap[q]? = some (.cells #[v] 72 (0, 0))) (le : lo ≤ q) (own : EOwn w5 lo v' L') (ne : v'.ownBlock ≠ some q) (F : Fr (Xr q v) w w5) (hl : Later w v v') :
    MvSaid lo w q v L' ans ans (w5.setCell ⟨q, 0, none⟩ v') :=
  ⟨rfl, v', ⟨heap_setCell_same w5 q 0 _ 72 v' row, own.fr (X := fun k => k = q) (Fr.grown (grown_setCell w5 q 0 v') (fun k e => (Option.some.inj e).symm)) (fun b e0 e1 => ne (by rw [e0, e1])), ne, le⟩, F.trans (Fr.grown (grown_setCell w5 q 0 v') (fun k e => Or.inl (Option.some.inj e).symm)), hl⟩
set_option maxHeartbeats 1000000 in
theorem forget_any (w : World) (lo q : Nat) (v : Value) (L : List E) (h : RtsAt lo w q L v) (hlen : L.length ≤ 1000) (hL : ∀ e ∈ L, e.Ok) (p : E → Bool) (f xb : Nat) (eg : ∀ args w, (callFunc f args).run Try.prog w = .ok (.enter f args) w)
    (hp : ∀ (W : World) (e : E), Fr (fun k => v.ownBlock = some k) w W → e.Ok → Calls Try.prog f #[.agg #[.int .u32 (e.a : Int), .int .u8 (e.n : Int), .int .i64 (e.b : Int), .int .i64 (e.d : Int), .int .u16 (e.s : Int), .int .u16 (e.m : Int), .int .u64 (e.u : Int)], .pointer (some ⟨xb, 0, none⟩)] W fun en w' => en = .returned (.bool (p e)) ∧ Below W.heap.size W w') :
    Calls Try.prog 51 #[.pointer (some ⟨q, 0, none⟩), .func (.func f) #[] #[.pointer (some ⟨xb, 0, none⟩)]] w (MvSaid lo w q v (L.filter fun e => !p e) (.returned (.tuple #[]))) := by
  have c65 := delf_any w lo v L h.own hlen hL p f xb eg hp
  obtain ⟨A, c, hv, -, -⟩ := h.own.form
  obtain ⟨q0, -⟩ := row1 h.row
  subst hv
  have HH := Lib.hid (And.intro h c65)
  have hql := h.lt
  clear h c65 hL hp
  go_enter Try.func51, Try.ntmps51
  go_upto_region 1 with (fail)
  go_wp2_with (go_at_call 65; (with_reducible refine HH.out.2.mono ?_); rintro en w5 ⟨v', rfl, O5, F5, L5⟩; obtain ⟨A5, c5, hv5, -, -⟩ := O5.form; subst hv5; have H5 := Lib.hid (And.intro O5 (And.intro F5 L5)); have hrow5 := F5.row HH.out.1.row HH.out.1.ne; have HR5 := Lib.hid hrow5; obtain ⟨z0, zf⟩ := row1 hrow5; have hql5 : q < w5.heap.size := (Array.getElem?_eq_some_iff.1 hrow5).1; clear O5 F5 L5 hrow5 q0 hql)
  exact bodyPost_ret (v := .tuple #[]) (by simp [results, Try.results51, go_sem]) rfl (mv_store _ HR5.out HH.out.1.le H5.out.1 (by rw [H5.out.2.2]; exact HH.out.1.ne) (H5.out.2.1.mono fun k _ e => Or.inr e) (Or.inl H5.out.2.2))
theorem tickp_any (W : World) (e : E) (xb : Nat) (x : Nat) (hx : W.heap[xb]? = some (.cells #[.int .u64 (x : Int)] 27 (0, 0))) :
    Calls Try.prog 54 #[.agg #[.int .u32 (e.a : Int), .int .u8 (e.n : Int), .int .i64 (e.b : Int), .int .i64 (e.d : Int), .int .u16 (e.s : Int), .int .u16 (e.m : Int), .int .u64 (e.u : Int)], .pointer (some ⟨xb, 0, none⟩)] W fun en w' => en = .returned (.bool (decide (e.u ≤ x))) ∧ Below W.heap.size W w' := by
  have hxl := (Array.getElem?_eq_some_iff.1 hx).1
  obtain ⟨x0, -⟩ := row1 hx
  clear hx
  go_enter Try.func54, Try.ntmps54
  go_wp2
  go_ret
  exact ⟨by rw [show decide (e.u ≤ x) = decide ((e.u : Int) ≤ (x : Int)) from decide_eq_decide.2 (by omega)]; rfl, (Below.refl _ _).alloc (Nat.le_refl _) _⟩
theorem dropp_any (W : World) (e : E) (xb : Nat) (x : Nat) (hx : W.heap[xb]? = some (.cells #[.int .i64 (x : Int)] 3 (0, 0))) :
    Calls Try.prog 55 #[.agg #[.int .u32 (e.a : Int), .int .u8 (e.n : Int), .int .i64 (e.b : Int), .int .i64 (e.d : Int), .int .u16 (e.s : Int), .int .u16 (e.m : Int), .int .u64 (e.u : Int)], .pointer (some ⟨xb, 0, none⟩)] W fun en w' => en = .returned (.bool (e.b == x)) ∧ Below W.heap.size W w' := by
  have hxl := (Array.getElem?_eq_some_iff.1 hx).1
  obtain ⟨x0, -⟩ := row1 hx
  clear hx
  go_enter Try.func55, Try.ntmps55
  go_wp2
  go_ret
  exact ⟨by rw [show (e.b == x) = ((e.b : Int) == (x : Int)) from by rw [Bool.eq_iff_iff]; simp; omega]; rfl, (Below.refl _ _).alloc (Nat.le_refl _) _⟩
theorem MvSaid.from {lo : Nat} {w W w' : World} {q : Nat} {v : Value} {L' : List E} {ans e : Ending} (B : Below w.heap.size w W) (h : MvSaid lo W q v L' ans e w') : MvSaid lo w q v L' ans e w' := by
  obtain ⟨h1, v', h2, h3, h4⟩ := h
  exact ⟨h1, v', h2, (Fr.of B).trans h3, h4.imp_right fun h b e => Nat.le_trans B.size (h b e)⟩
set_option maxHeartbeats 1000000 in
theorem tick_any (w : World) (lo q : Nat) (v : Value) (L : List E) (h : RtsAt lo w q L v) (hlen : L.length ≤ 1000) (hL : ∀ e ∈ L, e.Ok) (x : Nat) :
    Calls Try.prog 27 #[.pointer (some ⟨q, 0, none⟩), .int .u64 (x : Int)] w (MvSaid lo w q v (L.filter fun e => !(decide (e.u ≤ x))) (.returned (.tuple #[]))) := by
  have B1 := (Below.refl w.heap.size w).alloc (Nat.le_refl _) (.cells #[.int .u64 (x : Int)] 27)
  have r1 := heap_alloc_new w (.cells #[.int .u64 (x : Int)] 27)
  have c51 := forget_any _ lo q v L (h.kept B1) hlen hL (fun e => decide (e.u ≤ x)) 54 w.heap.size (enters_of Try.func54 (by kernel_rfl) rfl) (fun W e F _ => tickp_any W e _ x (F.row r1 (fun e => by have := (own_lt h.own e).2; omega)))
  have HC := Lib.hid (And.intro c51 B1)
  clear c51 B1 r1 h hlen hL
  go_enter Try.func27, Try.ntmps27
  go_wp2_with (go_at_call 51; (with_reducible refine HC.out.1.mono ?_); rintro en w5 hmv; have HM := Lib.hid hmv; obtain ⟨rfl, -⟩ := hmv)
  exact bodyPost_ret (v := .tuple #[]) (by simp [results, Try.results27, go_sem]) rfl (HM.out.from HC.out.2)
set_option maxHeartbeats 1000000 in
theorem drop_any (w : World) (lo q : Nat) (v : Value) (L : List E) (h : RtsAt lo w q L v) (hlen : L.length ≤ 1000) (hL : ∀ e ∈ L, e.Ok) (x : Nat) :
    Calls Try.prog 31 #[.pointer (some ⟨q, 0, none⟩), .int .i64 (x : Int)] w (MvSaid lo w q v (L.filter fun e => !(e.b == x)) (.returned (.tuple #[]))) := by
  have B1 := (Below.refl w.heap.size w).alloc (Nat.le_refl _) (.cells #[.int .i64 (x : Int)] 3)
  have r1 := heap_alloc_new w (.cells #[.int .i64 (x : Int)] 3)
  have c51 := forget_any _ lo q v L (h.kept B1) hlen hL (fun e => e.b == x) 55 w.heap.size (enters_of Try.func55 (by kernel_rfl) rfl) (fun W e F _ => dropp_any W e _ x (F.row r1 (fun e => by have := (own_lt h.own e).2; omega)))
  have HC := Lib.hid (And.intro c51 B1)
  clear c51 B1 r1 h hlen hL
  go_enter Try.func31, Try.ntmps31
  go_wp2_with (go_at_call 51; (with_reducible refine HC.out.1.mono ?_); rintro en w5 hmv; have HM := Lib.hid hmv; obtain ⟨rfl, -⟩ := hmv)
  exact bodyPost_ret (v := .tuple #[]) (by simp [results, Try.results31, go_sem]) rfl (HM.out.from HC.out.2)
theorem new_any (w : World) : Calls Try.prog 9 #[] w fun e w' => e = .returned (.pointer (some ⟨w.heap.size, 0, none⟩)) ∧ RtsAt w.heap.size w' w.heap.size [] (.slice none 0 0) ∧ Below w.heap.size w w' := by
  go_enter Try.func9, Try.ntmps9
  go_wp2
  go_ret
  exact ⟨rfl, ⟨heap_alloc_new w _, EOwn.nil _ _, (by intro e; cases e), Nat.le_refl _⟩, (Below.refl _ _).alloc (Nat.le_refl _) _⟩
theorem isnode_any (x : Nat) (hx : x < 16) (w : World) : Calls Try.prog 46 #[.int .i64 (x : Int)] w fun e w' => e = .returned (.bool true) ∧ w = w' := by
  have h1 : (0 : Int) ≤ (x : Int) := by omega
  have h2 : (x : Int) < 16 := by omega
  go_enter Try.func46, Try.ntmps46
  go_wp2
  go_ret
  exact ⟨rfl, rfl⟩
end Go.Proofs.Ytkbhmdoichiinaa.Rts
