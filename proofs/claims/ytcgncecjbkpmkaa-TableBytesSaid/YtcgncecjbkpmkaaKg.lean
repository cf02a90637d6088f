/- A table of changes; its rows, its row. -/
import Derived.Test.YtcgncecjbkpmkaaKp
import Derived.Test.YtcgncecjbkpmkaaKf
import Derived.WalkLawsBesides
namespace Go.Proofs.Ytcgncecjbkpmkaa.Tab
open Pre Ser Chg
open Go.ChangeShapes Go.WideShapes Go.ChangeAt Go.RowKit
set_option maxRecDepth 8000

def OfSaid (w : World) (t : T) (e : Ending) (w' : World) : Prop := ∃ q v, e = .returned (.pointer (some ⟨q, 0, none⟩)) ∧ TabAt w' w.heap.size q t v ∧ Below w.heap.size w w'
theorem of_any (w : World) (A : Option Addr) (n cp : Nat) (cs : List C) (hn : n = cs.length) (h60 : n ≤ 60) (hc : ChSl w A cs) (hgd : Gd cs) :
    Calls Try.prog 8 #[.slice A n cp] w (OfSaid w (tabOf cs)) := by
  have HN := Lib.hid hn
  have HC := Lib.hid hc
  have HG := Lib.hid hgd
  have T0 := TabAt.new w
  have B0 : Below w.heap.size w (w.alloc (.cells #[.slice none 0 0, .int .u64 0, .int .u64 0] 70)) := (Below.refl _ _).alloc (Nat.le_refl _) _
  clear hn hc hgd
  go_enter Try.func8, Try.ntmps8
  go_wp2_with (go_at_call 23; (with_reducible refine (new_any _).mono ?_); rintro e w1 ⟨rfl, rfl⟩)
  generalize w.alloc _ = w1 at *
  go_loopw [4] (fun i wr => ∃ j : Nat, j ≤ n ∧ i = .int .i64 j ∧ ∃ v, Hid (TabAt wr w.heap.size w.heap.size (tabOf (cs.take j)) v ∧ Below w.heap.size w wr)) (fun i _ => n - (intOf i).toNat)
  case atStart => exact ⟨0, by omega, rfl, _, ⟨T0, B0⟩⟩
  case round =>
    obtain ⟨j, hj, rfl, v, HR⟩ := hrel
    clear T0 B0
    by_cases hlt : j < n
    · have hjl : j < cs.length := by rw [← HN.out]; exact hlt
      obtain ⟨bb, oo, ea, hb, hca⟩ := (HC.out.below HR.out.2) j hjl
      subst ea
      have hto := take_ok HG.out j (by omega)
      have hap := apply_any wr w.heap.size w.heap.size (tabOf (cs.take j)) v cs[j] HR.out.1 hto.1 (HG.out.ok j hjl) (by rw [hto.2.2]; exact HG.out.no j hjl) (HG.out.time j hjl) (gone_there HG.out j hjl) (by omega)
      rw [← tabOf_take cs j hjl] at hap
      obtain ⟨g0, g1, g2, g3, g4, g5, g6, g7⟩ := hca
      generalize cs[j]'_ = c at *
      have HAP : Hid (Calls Try.prog 22 #[.pointer (some ⟨w.heap.size, 0, none⟩), .agg #[.int .u64 (c.no : Int), .int .u64 (c.time : Int), .bool c.gone, .int .u32 (c.addr : Int), .int .u8 (c.len : Int), .int .i64 (c.via : Int), .int .u16 (c.metric : Int), .int .u16 (c.seq : Int)]] wr (PutSaid wr w.heap.size w.heap.size v.ownBlock (tabOf (cs.take (j + 1))))) := hap
      clear hap hto
      go_wp2_with (go_at_call 22; (with_reducible refine HAP.out.mono ?_); rintro e w2 ⟨v2, rfl, T2, B2, -⟩; have HZ := Lib.hid (And.intro T2 (HR.out.2.trans B2)); clear T2 B2)
      go_roundw
      case rel => exact ⟨j + 1, by omega, by go_num, v2, HZ.out⟩
      case measure => simp [intOf]; omega
    · obtain rfl : j = n := by omega
      go_wp2
      go_ret
      refine ⟨w.heap.size, v, rfl, ?_, HR.out.2⟩
      have := HR.out.1
      rwa [List.take_of_length_le (by rw [HN.out]; exact Nat.le_refl _)] at this
theorem clone_any (w : World) (B : Nat) (v : Value) (rs : List R) (hown : ROwn w B v rs) (hlen : rs.length ≤ 1000) :
    Calls Try.prog 27 #[v] w fun e w' => ∃ v', e = .returned v' ∧ ROwn w' w.heap.size v' rs ∧ Below w.heap.size w w' := by
  obtain ⟨i0, hi, hz0, hz1, hz2⟩ := info_parts info43
  have q48 : ∀ (w : World) (a : Option Addr) (n c n' c' : Nat), (binOp .eql 48 (.slice a n c) (.slice none n' c')).run Try.prog w = .ok (.bool a.isNone) w := fun w a n c n' c' => Lib.run_eql_slice_nil w _ _ a n c n' c' Try.underlying48
  rcases hown.2 with ⟨rfl, h0⟩ | ⟨g, cap, cur, rfl, hBg, hg, h1, h2, h3, h4⟩
  · have : rs = [] := List.eq_nil_of_length_eq_zero h0
    subst this
    clear hi hz0 hz1 hz2
    go_enter Try.func27, Try.ntmps27
    go_wp2
    go_ret
    exact ⟨_, rfl, ROwn.nil _ _, Below.refl _ _⟩
  · have hn : ∀ j u, (rs.flatMap R.cl)[j]? = some u → (w.alloc (.cells #[] 43)).cell? ((⟨g, 0, none⟩ : Addr).add j) = some u := fun j u hj => by
      refine Lib.cell?_alloc_some _ ?_
      rw [Addr.add_lit, Nat.zero_add, cell_of_row _ _ _ _ 43 (0, 0) hg]
      rw [← h4, List.getElem?_take] at hj
      split at hj
      · simpa using hj
      · cases hj
    have HI := Lib.hid (And.intro hi (And.intro hz0 (And.intro hz1 (And.intro hz2 hn))))
    have hnn := World.ownsRow_made (base := w.heap.size) (e := 43) (size := 10) w #[] 0 (Nat.le_refl _) (Nat.zero_le _) rfl
    have HO := Lib.hid hnn
    clear hi hz0 hz1 hz2 hn hnn hown hg h3 h4 hBg
    go_enter Try.func27, Try.ntmps27
    go_wp2_with (at_builtin; refine wpList_append_own_at _ rfl _ _ 48 rfl w.heap.size 43 i0 _ 10 48 Try.underlying48 HI.out.1 HI.out.2.1 HI.out.2.2.1 HI.out.2.2.2.1 rfl (by decide) _ 0 [] rfl HO.out ⟨g, 0, none⟩ rs.length cap (rs.flatMap R.cl) rfl (rflat_len rs) HI.out.2.2.2.2 (rcl_one rs) (by unfold maxLen; omega) (by omega) (by simp) ?_; intro v' w' h5 h6 _ h7; have HZ := Lib.hid (And.intro h5 (And.intro h6 h7)); clear h5 h6 h7)
    go_ret
    refine ⟨v', rfl, by have := HZ.out.1; unfold ROwn; simpa using this, ?_⟩
    exact ((Below.refl _ w).alloc (Nat.le_refl _) _).grown HZ.out.2.1 (by simp) (fun k hk => by have e : some w.heap.size = some k := hk; injection e with e; omega)
theorem rows_any (w : World) (B q : Nat) (t : T) (v : Value) (h : TabAt w B q t v) (hlen : t.rows.length ≤ 1000) :
    Calls Try.prog 14 #[.pointer (some ⟨q, 0, none⟩)] w fun e w' => ∃ v', e = .returned v' ∧ ROwn w' w.heap.size v' t.rows ∧ Below w.heap.size w w' := by
  obtain ⟨A, cp, hv, -, -⟩ := h.own.form
  obtain ⟨k0, k1, k2⟩ := row3 h.row
  have c27 := clone_any w B v t.rows h.own hlen
  subst hv
  clear h
  go_enter Try.func14, Try.ntmps14
  go_wp2_with (go_at_call 27; (with_reducible refine c27.mono ?_); rintro e w1 ⟨v1, rfl, O1, B1⟩; have HZ := Lib.hid (And.intro O1 B1); clear O1 B1)
  go_ret
  exact ⟨v1, rfl, HZ.out.1, HZ.out.2⟩
end Go.Proofs.Ytcgncecjbkpmkaa.Tab
