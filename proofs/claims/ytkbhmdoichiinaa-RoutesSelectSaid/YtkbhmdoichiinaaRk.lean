/- All that is told. -/
import Derived.Test.YtkbhmdoichiinaaRj
import Derived.WalkLawsBesides
namespace Go.Proofs.Ytkbhmdoichiinaa.Rts
open Pre Ser
open Go.Proofs.Ytkbhmdoichiinaa.Src (row1 row2)
open Go.ChangeShapes Go.WideShapes Go.ChangeAt Go.RowKit
set_option maxRecDepth 8000

theorem clone_any (w : World) (B : Nat) (v : Value) (rs : List E) (hown : EOwn w B v rs) (hlen : rs.length ≤ 1000) :
    Calls Try.prog 32 #[v] w fun e w' => ∃ v', e = .returned v' ∧ EOwn w' w.heap.size v' rs ∧ Below w.heap.size w w' := by
  obtain ⟨i0, hi, hz0, hz1, hz2⟩ := info_parts info43
  have q26 : ∀ (w : World) (a : Option Addr) (n c n' c' : Nat), (binOp .eql 26 (.slice a n c) (.slice none n' c')).run Try.prog w = .ok (.bool a.isNone) w := fun w a n c n' c' => Lib.run_eql_slice_nil w _ _ a n c n' c' Try.underlying26
  rcases hown.2 with ⟨rfl, h0⟩ | ⟨g, cap, cur, rfl, hBg, hg, h1, h2, h3, h4⟩
  · have : rs = [] := List.eq_nil_of_length_eq_zero h0
    subst this
    clear hi hz0 hz1 hz2
    go_enter Try.func32, Try.ntmps32
    go_wp2
    go_ret
    exact ⟨_, rfl, EOwn.nil _ _, Below.refl _ _⟩
  · have hn : ∀ j u, (rs.flatMap E.cl)[j]? = some u → (w.alloc (.cells #[] 43)).cell? ((⟨g, 0, none⟩ : Addr).add j) = some u := fun j u hj => by
      refine Lib.cell?_alloc_some _ ?_
      rw [Addr.add_lit, Nat.zero_add, cell_of_row _ _ _ _ 43 (0, 0) hg]
      rw [← h4, List.getElem?_take] at hj
      split at hj
      · simpa using hj
      · cases hj
    have HI := Lib.hid (And.intro hi (And.intro hz0 (And.intro hz1 (And.intro hz2 hn))))
    have hnn := World.ownsRow_made (base := w.heap.size) (e := 43) (size := 7) w #[] 0 (Nat.le_refl _) (Nat.zero_le _) rfl
    have HO := Lib.hid hnn
    clear hi hz0 hz1 hz2 hn hnn hown hg h3 h4 hBg
    go_enter Try.func32, Try.ntmps32
    go_wp2_with (at_builtin; refine wpList_append_own_at _ rfl _ _ 26 rfl w.heap.size 43 i0 _ 7 40 Try.underlying26 HI.out.1 HI.out.2.1 HI.out.2.2.1 HI.out.2.2.2.1 rfl (by decide) _ 0 [] rfl HO.out ⟨g, 0, none⟩ rs.length cap (rs.flatMap E.cl) rfl (rflat_len rs) HI.out.2.2.2.2 (rcl_one rs) (by unfold maxLen; omega) (by omega) (by simp) ?_; intro v' w' h5 h6 _ h7; have HZ := Lib.hid (And.intro h5 (And.intro h6 h7)); clear h5 h6 h7)
    go_ret
    refine ⟨v', rfl, by have := HZ.out.1; unfold EOwn; simpa using this, ?_⟩
    exact ((Below.refl _ w).alloc (Nat.le_refl _) _).grown HZ.out.2.1 (by simp) (fun k hk => by have e : some w.heap.size = some k := hk; injection e with e; omega)
theorem all_any (w : World) (lo q : Nat) (v : Value) (L : List E) (h : RtsAt lo w q L v) (hlen : L.length ≤ 1000) :
    Calls Try.prog 11 #[.pointer (some ⟨q, 0, none⟩)] w fun e w' => ∃ v', e = .returned v' ∧ EOwn w' w.heap.size v' L ∧ Below w.heap.size w w' := by
  obtain ⟨A, cp, hv, -, -⟩ := h.own.form
  obtain ⟨k0, -⟩ := row1 h.row
  have c27 := clone_any w lo v L h.own hlen
  have hq := h.lt
  subst hv
  clear h
  go_enter Try.func11, Try.ntmps11
  go_wp2_with (go_at_call 32; (with_reducible refine c27.mono ?_); rintro e w1 ⟨v1, rfl, O1, B1⟩; have HZ := Lib.hid (And.intro O1 B1); clear O1 B1)
  go_ret
  exact ⟨v1, rfl, HZ.out.1, HZ.out.2⟩
end Go.Proofs.Ytkbhmdoichiinaa.Rts
