/- Select. -/
import Derived.Test.YtkbhmdoichiinaaRy
namespace Go.Proofs.Ytkbhmdoichiinaa.Rts
open Pre Ser
open Go.Proofs.Ytkbhmdoichiinaa.Src (row1 row2)
open Go.ChangeShapes Go.WideShapes Go.ChangeAt Go.RowKit
set_option maxRecDepth 8000
set_option linter.unusedVariables false

open Go.Proofs.Ytkbhmdoichiinaa.Src (Mk SrcAt)
theorem Fr.cell3 {w : World} (x y z : Obj) : ((w.alloc x).alloc y).alloc z = ((w.alloc x).alloc y).alloc z ∧ (((w.alloc x).alloc y).alloc z).heap[w.heap.size]? = some x ∧ (((w.alloc x).alloc y).alloc z).heap[w.heap.size + 1]? = some y ∧ (((w.alloc x).alloc y).alloc z).heap[w.heap.size + 2]? = some z ∧ Below w.heap.size w (((w.alloc x).alloc y).alloc z) := by
  have e1 : (w.alloc x).heap.size = w.heap.size + 1 := by simp
  have e2 : ((w.alloc x).alloc y).heap.size = w.heap.size + 2 := by simp
  refine ⟨rfl, ?_, ?_, ?_, (((Below.refl w.heap.size w).alloc (Nat.le_refl _) x).alloc (by simp) y).alloc (by simp; omega) z⟩
  · exact (heap_alloc_old _ _ (by rw [e2]; omega)).trans ((heap_alloc_old _ _ (by rw [e1]; omega)).trans (heap_alloc_new w x))
  · have := heap_alloc_new (w.alloc x) y
    rw [e1] at this
    exact (heap_alloc_old _ _ (by rw [e2]; omega)).trans this
  · have := heap_alloc_new ((w.alloc x).alloc y) z
    rw [e2] at this
    exact this
/-- What stands between two prefixes while it is selected. -/
structure SelI (w : World) (qs : Nat) (Ac : Option Addr) (nc cc : Nat) (cf : Nat → Nat) (f : Mk) (L : List E) (k : Nat) (W : World) : Prop where
  b : Below w.heap.size w W
  r0 : W.heap[w.heap.size]? = some (.cells #[.pointer (some ⟨qs, 0, none⟩)] 46 (0, 0))
  r1 : W.heap[w.heap.size + 1]? = some (.cells #[.slice Ac nc cc] 50 (0, 0))
  l : ∃ vv rs, W.heap[w.heap.size + 2]? = some (.cells #[vv] 48 (0, 0)) ∧ GOwn 53 5 Ro.cl W w.heap.size vv rs ∧ SelOK cf f (L.take k) rs ∧ rs.length ≤ k
theorem SelI.step {w W W' : World} {qs : Nat} {Ac : Option Addr} {nc cc : Nat} {cf : Nat → Nat} {f : Mk} {L : List E} {k : Nat} (h : SelI w qs Ac nc cc cf f L k W) (B : Below W.heap.size W W') : SelI w qs Ac nc cc cf f L k W' := by
  obtain ⟨vv, rs, h1, h2, h3⟩ := h.l
  exact ⟨h.b.trans (B.mono h.b.size), brow B h.r0, brow B h.r1, vv, rs, brow B h1, h2.kept B, h3⟩
theorem esl_sub {W : World} {gb cp lo : Nat} {L : List E} (h : EOwn W lo (.slice (some ⟨gb, 0, none⟩) L.length cp) L) {i j : Nat} (hij : i ≤ j) (hj : j ≤ L.length) : ESl W (some ⟨gb, i * 7, none⟩) ((L.drop i).take (j - i)) := fun k hk => by
  rw [List.length_take, List.length_drop] at hk
  have hk2 : i + k < L.length := by omega
  obtain ⟨hE, -, hl⟩ := h.at_ hk2
  refine ⟨gb, i * 7, rfl, hl, ?_⟩
  rw [List.getElem_take, List.getElem_drop, show i * 7 + k * 7 = (i + k) * 7 by omega]
  exact hE
theorem sel_grp {w : World} {lo q : Nat} {v : Value} {L : List E} {ls qs cs : Nat} {f : Mk} {Ac : Option Addr} {nc cc : Nat} {cf : Nat → Nat} (h : RtsAt lo w q L v) (hr : Rising L) (hL : ∀ e ∈ L, e.Ok) (hlen : L.length ≤ 900) (hs : SrcAt ls w qs f cs) (hco : CostAt w Ac nc cf)
    (i j : Nat) (W : World) (gb cp : Nat) (hv : v = .slice (some ⟨gb, 0, none⟩) L.length cp) (hI : SelI w qs Ac nc cc cf f L i W) (g : Grp L i j) :
    Calls Try.prog 34 #[.slice (some ⟨gb, i * 7, none⟩) (j - i) (cp - i), .pointer (some ⟨w.heap.size, 0, none⟩), .pointer (some ⟨w.heap.size + 1, 0, none⟩), .pointer (some ⟨w.heap.size + 2, 0, none⟩)] W fun en w' => en = .returned (.tuple #[]) ∧ SelI w qs Ac nc cc cf f L j w' := by
  obtain ⟨vv, rs, h1, h2, h3, h4⟩ := hI.l
  have hij := g.lt
  have hjl := g.le
  have hrW := h.kept hI.b
  have hG : ∀ e ∈ (L.drop i).take (j - i), e.Ok := fun e he => hL e (List.mem_of_mem_drop (List.mem_of_mem_take he))
  have c := sel1_any W (some ⟨gb, i * 7, none⟩) (j - i) (cp - i) ((L.drop i).take (j - i)) Ac nc cc cf ls qs cs w.heap.size (w.heap.size + 1) (w.heap.size + 2) w.heap.size f vv rs (by rw [List.length_take, List.length_drop]; omega) (Lib.hid (by omega)) (esl_sub (hv ▸ hrW.own) (by omega) hjl) hG (hs.below hI.b) hI.r0 hI.r1 (hco.below hI.b) h1 h2 (by omega) hI.b.size
  refine c.mono fun en w' ⟨e1, vv', k1, k2, F⟩ => ⟨e1, ?_, ?_, ?_, vv', _, k1, k2, h3.grp g hr hL, ?_⟩
  · refine hI.b.trans (Fr.below F hI.b.size (fun k hk => ?_))
    rcases hk with rfl | hk
    · omega
    · exact (h2.lt hk).1
  · exact F.row hI.r0 (fun hk => by
      rcases hk with hk | hk
      · omega
      · exact h2.ne hI.r0 (by decide) hk)
  · exact F.row hI.r1 (fun hk => by
      rcases hk with hk | hk
      · omega
      · exact h2.ne hI.r1 (by decide) hk)
  · rw [List.length_append]
    split <;> simp <;> omega
set_option maxHeartbeats 2000000 in
theorem select_any (w : World) (lo q : Nat) (v : Value) (L : List E) (h : RtsAt lo w q L v) (hr : Rising L) (hL : ∀ e ∈ L, e.Ok) (hlen : L.length ≤ 900) (ls qs cs : Nat) (f : Mk) (hs : SrcAt ls w qs f cs) (Ac : Option Addr) (nc cc : Nat) (cf : Nat → Nat) (hco : CostAt w Ac nc cf) :
    Calls Try.prog 15 #[.pointer (some ⟨q, 0, none⟩), .pointer (some ⟨qs, 0, none⟩), .slice Ac nc cc] w fun en w' => ∃ vv rs, en = .returned vv ∧ SelOK cf f L rs ∧ GOwn 53 5 Ro.cl w' w.heap.size vv rs ∧ Below w.heap.size w w' ∧ rs.length ≤ L.length := by
  obtain ⟨-, r0, r1, r2, B3⟩ := Fr.cell3 (w := w) (.cells #[.pointer (some ⟨qs, 0, none⟩)] 46) (.cells #[.slice Ac nc cc] 50) (.cells #[.slice none 0 0] 48)
  have hI0 : SelI w qs Ac nc cc cf f L 0 (((w.alloc (.cells #[.pointer (some ⟨qs, 0, none⟩)] 46)).alloc (.cells #[.slice Ac nc cc] 50)).alloc (.cells #[.slice none 0 0] 48)) := ⟨B3, r0, r1, .slice none 0 0, [], r2, GOwn.nil _ _ _ _ _, SelOK.nil cf f, Nat.le_refl _⟩
  have c33 := each_any (((w.alloc (.cells #[.pointer (some ⟨qs, 0, none⟩)] 46)).alloc (.cells #[.slice Ac nc cc] 50)).alloc (.cells #[.slice none 0 0] 48)) lo q v L (by omega) 34 #[.pointer (some ⟨w.heap.size, 0, none⟩), .pointer (some ⟨w.heap.size + 1, 0, none⟩), .pointer (some ⟨w.heap.size + 2, 0, none⟩)] (enters_of Try.func34 (by kernel_rfl) rfl) (SelI w qs Ac nc cc cf f L) hI0 (fun k W W' hI B => hI.step B) (fun k W hI => h.kept hI.b) (fun i j W gb cp hv hI g => by
    have := sel_grp h hr hL hlen hs hco i j W gb cp hv hI g
    simpa using this)
  have HC := Lib.hid c33
  clear c33 r0 r1 r2 B3 hI0 h hr hL hlen hs hco
  go_enter Try.func15, Try.ntmps15
  go_upto_region 3 with (go_at_call 33; (with_reducible refine HC.out.mono ?_); rintro en w5 ⟨rfl, hI⟩; have HI := Lib.hid hI; clear hI)
  obtain ⟨vv, rs, h1, h2, h3, h4⟩ := HI.out.l
  obtain ⟨A5, c5, hv5, -, -⟩ := h2.form (fun _ => rfl)
  obtain ⟨n5, hn5⟩ : ∃ n5, n5 = rs.length := ⟨_, rfl⟩
  rw [← hn5] at hv5
  subst hv5
  obtain ⟨b0, -⟩ := row1 h1
  rw [List.take_length] at h3
  have HZ := Lib.hid (And.intro h3 (And.intro h2 (And.intro HI.out.b h4)))
  clear h1 h2 h3 h4 hn5
  go_wp2
  go_ret
  exact ⟨_, rs, rfl, HZ.out⟩
end Go.Proofs.Ytkbhmdoichiinaa.Rts
