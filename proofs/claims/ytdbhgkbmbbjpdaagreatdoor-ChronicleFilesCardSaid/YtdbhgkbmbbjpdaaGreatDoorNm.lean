/- A file whole and safe. -/
import Derived.Test.YtdbhgkbmbbjpdaaGreatDoorNl
namespace Go.Proofs.YtdbhgkbmbbjpdaaGreatDoor.Chr
variable {lo : Nat}
open Go.ChangeShapes Go.WideShapes Go.ChangeAt Go.RowKit
open Shf (S str)
open Coin (Rd Row Own sz coin got Pur takeV endV CoinSaid)
open Frm (pack err size kind cnt body noItem itemV OneSaid)
set_option maxRecDepth 8000
set_option linter.unusedVariables false
open Shf (Tag Ext Rep M RdN Mv act_now)
def NmsL (l : List (S × Nat)) (k : Nat) : Prop := l.length ≤ k ∧ ∀ p ∈ l, p.1.length ≤ 1000
abbrev Nms (m : M) (k : Nat) : Prop := NmsL m.now k
theorem NmsL.wo {l : List (S × Nat)} {k : Nat} (h : NmsL l k) (s : S) : NmsL (Shf.wo l s) k := ⟨Nat.le_trans (List.length_filter_le _ _) h.1, fun p hp => h.2 p (Shf.mem_wo.1 hp).1⟩
theorem NmsL.on {l : List (S × Nat)} {k : Nat} (h : NmsL l k) (v : Mv) (hv : v.to.length ≤ 1000) : NmsL (v.on l) (k + 1) := by
  unfold Shf.Mv.on
  split
  · exact ⟨Nat.le_succ_of_le (h.wo _).1, (h.wo _).2⟩
  · rename_i b _
    have h2 := (h.wo v.fr).wo v.to
    refine ⟨?_, fun p hp => ?_⟩
    · show (Shf.wo (Shf.wo l v.fr) v.to ++ [(v.to, b)]).length ≤ _
      rw [List.length_append]
      exact Nat.succ_le_succ h2.1
    · have hp : p ∈ Shf.wo (Shf.wo l v.fr) v.to ++ [(v.to, b)] := hp
      rcases List.mem_append.1 hp with hp | hp
      · exact h2.2 p hp
      · rw [List.mem_singleton.1 hp]; exact hv
theorem NmsL.more {l : List (S × Nat)} {k : Nat} (h : NmsL l k) : NmsL l (k + 1) := ⟨Nat.le_succ_of_le h.1, h.2⟩
theorem nms_act {m : M} {k : Nat} (h : Nms m k) : Nms m.act k := by unfold Nms; rw [(act_now m).1]; exact h
theorem lose_now (m : M) (s : S) : (m.lose s).now = m.now := by unfold Shf.M.lose; split <;> rfl
theorem nms_create {m : M} {k : Nat} (h : Nms m k) (s : S) (hs : s.length ≤ 1000) (b : Nat) : Nms (m.create s b) (k + 1) := by
  unfold Shf.M.create
  split
  · exact h.more
  · split
    · exact (nms_act h).more
    · split
      · exact (nms_act h).more
      · have a : NmsL (Shf.Mv.on ⟨[], s, some b⟩ m.act.now) (k + 1) := (nms_act h).on _ hs
        exact a
theorem nms_append {m : M} {k : Nat} (h : Nms m k) (s p : S) : Nms (m.append s p) k := by
  unfold Shf.M.append
  split
  · exact nms_act h
  · split <;> exact nms_act h
theorem nms_sync {m : M} {k : Nat} (h : Nms m k) (s : S) : Nms (m.sync s) k := by
  unfold Shf.M.sync
  split <;> exact nms_act h
theorem nms_names {m : M} {k : Nat} (h : Nms m k) : Nms m.names k := by
  unfold Shf.M.names
  split <;> exact nms_act h
theorem nms_rename {m : M} {k : Nat} (h : Nms m k) (s t : S) (ht : t.length ≤ 1000) : Nms (m.rename s t) (k + 1) := by
  unfold Shf.M.rename
  split
  · exact h.more
  · split
    · exact (nms_act h).more
    · split
      · exact (nms_act h).more
      · have a : NmsL (m.act.lose t).now k := by rw [lose_now]; exact nms_act h
        exact a.on ⟨s, t, some _⟩ ht
theorem nms_delete {m : M} {k : Nat} (h : Nms m k) (s : S) : Nms (m.delete s) (k + 1) := by
  unfold Shf.M.delete
  split
  · exact (nms_act h).more
  · have a : NmsL (m.act.lose s).now k := by rw [lose_now]; exact nms_act h
    exact a.on ⟨s, [], none⟩ (Nat.zero_le _)
theorem nms_list {m : M} {k : Nat} (h : Nms m k) : m.list.length ≤ k ∧ ∀ s ∈ m.list, s.length ≤ 1000 := by
  unfold Shf.M.list
  split
  · exact ⟨Nat.zero_le _, fun s hs => by cases hs⟩
  · refine ⟨by rw [List.length_mergeSort, List.length_map]; exact h.1, fun s hs => ?_⟩
    obtain ⟨p, hp, rfl⟩ := List.mem_map.1 (List.mem_mergeSort.1 hs)
    exact h.2 p hp
theorem wst_nms {m : M} {nm bs : S} (hn : nm.length ≤ 1000) {n : Nat} (h : Nms m n) : ∀ {k : Nat} {m' : M}, WSt m nm bs k m' → Nms m' (n + 2) := by
  have hb : besN.length ≤ 1000 := by decide
  have h1 : ∀ m', WSt m nm bs 1 m' → Nms m' (n + 1) := by
    rintro m' ⟨_, b, rfl, _⟩; exact nms_create h _ hb b
  have h2 : ∀ m', WSt m nm bs 2 m' → Nms m' (n + 1) := by
    rintro m' ⟨m1, k1, _, rfl⟩; exact nms_append (h1 m1 k1) _ _
  have h3 : ∀ m', WSt m nm bs 3 m' → Nms m' (n + 1) := by
    rintro m' ⟨m1, k1, _, rfl⟩; exact nms_sync (h2 m1 k1) _
  have h4 : ∀ m', WSt m nm bs 4 m' → Nms m' (n + 2) := by
    rintro m' ⟨m1, k1, _, rfl⟩; exact nms_rename (h3 m1 k1) _ _ hn
  intro k m' h0
  match k, h0 with
  | 0, e => have e : m' = m := e; subst e; exact h.more.more
  | 1, e => exact (h1 m' e).more
  | 2, e => exact (h2 m' e).more
  | 3, e => exact (h3 m' e).more
  | 4, e => exact h4 m' e
  | k + 5, e =>
    obtain ⟨m1, k1, _, rfl⟩ := e
    exact nms_names (h4 m1 k1)
theorem WSt_small1 {m : M} {nm bs : S} {m' : M} (h : WSt m nm bs 1 m') : m'.done ≤ m.done + 1 ∧ m'.room = m.room := by
  obtain ⟨_, b, rfl, _⟩ := h; exact sm_create m _ b
theorem WSt_small2 {m : M} {nm bs : S} {m' : M} (h : WSt m nm bs 2 m') : m'.done ≤ m.done + 2 ∧ m'.room = m.room := by
  obtain ⟨m1, k1, _, rfl⟩ := h
  have a := WSt_small1 (nm := nm) (bs := bs) k1
  have c := sm_append m1 besN bs
  exact ⟨by omega, by rw [c.2, a.2]⟩
theorem WSt_small3 {m : M} {nm bs : S} {m' : M} (h : WSt m nm bs 3 m') : m'.done ≤ m.done + 3 ∧ m'.room = m.room := by
  obtain ⟨m1, k1, _, rfl⟩ := h
  have a := WSt_small2 (nm := nm) k1
  have c := sm_sync m1 besN
  exact ⟨by omega, by rw [c.2, a.2]⟩
theorem WSt_small4 {m : M} {nm bs : S} {m' : M} (h : WSt m nm bs 4 m') : m'.done ≤ m.done + 4 ∧ m'.room = m.room := by
  obtain ⟨m1, k1, _, rfl⟩ := h
  have a := WSt_small3 (nm := nm) k1
  have c := sm_rename m1 besN nm
  exact ⟨by omega, by rw [c.2, a.2]⟩
theorem wres_small {m : M} {nm bs : S} {en : Nat} {m' : M} (h : WRes m nm bs en m') (hn : nm.length ≤ 1000) {k : Nat} (hk : Nms m k) : m'.done ≤ m.done + 5 ∧ m'.room = m.room ∧ Nms m' (k + 3) := by
  have hb : besN.length ≤ 1000 := by decide
  rcases h with ⟨_, h⟩ | ⟨_, ⟨_, b, rfl⟩ | ⟨m1, k1, _, rfl⟩ | ⟨m1, k1, _, rfl⟩ | ⟨m1, k1, _, rfl⟩ | ⟨m1, k1, _, rfl⟩⟩
  · have a := WSt_small h
    exact ⟨a.1, a.2, (wst_nms hn hk h).more⟩
  · have c := sm_create m besN b
    exact ⟨by omega, c.2, (nms_create hk _ hb b).more.more⟩
  · have a := WSt_small1 k1
    have c := sm_append m1 besN bs
    exact ⟨by omega, c.2.trans a.2, (nms_append (wst_nms hn hk k1) _ _).more⟩
  · have a := WSt_small2 k1
    have c := sm_sync m1 besN
    exact ⟨by omega, c.2.trans a.2, (nms_sync (wst_nms hn hk k1) _).more⟩
  · have a := WSt_small3 k1
    have c := sm_rename m1 besN nm
    exact ⟨by omega, c.2.trans a.2, nms_rename (wst_nms hn hk k1) _ _ hn⟩
  · have a := WSt_small4 k1
    have c := sm_names m1
    exact ⟨by omega, c.2.trans a.2, (nms_names (wst_nms hn hk k1)).more⟩
theorem rep_good {w : World} {T : Nat → Tag} {q : Nat} {m : M} (R : Rep w T q m) : Shf.Good m.now := by
  have h := R.2.good _ (Nat.le_refl _)
  rwa [List.take_length, ← R.2.now] at h
def WrM (own : List S) (m : M) (nm bs : S) (e : Nat) (m' : M) : Prop := ∃ en m1, (WRes m nm bs en m1 ∧ Shf.Good m1.now) ∧ ((en = 0 ∧ e = 0 ∧ m' = m1) ∨ (en ≠ 0 ∧ e = (undoM own m1 en).1 ∧ m' = (undoM own m1 en).2))
theorem al_size (w : World) (o : Obj) : (w.alloc o).heap.size = w.heap.size + 1 := by simp
set_option maxHeartbeats 2000000 in
theorem write_any (w : World) (T : Nat → Tag) (p q : Nat) (m : M) (c : CD) (R : Rep w T q m) (h : CAt lo w T p q c) (hs : c.Small) (hB : c.hB < 100) (hv : ∀ d ∈ c.vols, d.no < 100) (hd : m.done < 700000) (hms : Nms m 9000) (nm : S) (hnm : nm.length ≤ 1000) (A : Option Addr) (cp n : Nat) (bs : S) (hn : n = bs.length) (hbs : RdN w T A bs) (hA : A = none → cp = 0) (hbl0 : bs.length ≤ 1000000) (hroom : -1000000000000 ≤ m.room) :
    Calls Tryz.prog 44 #[.pointer (some ⟨p, 0, none⟩), .string (str nm), .slice A n cp] w fun e w' => ∃ en m' T', e = .returned (.int .i64 ((en : Nat) : Int)) ∧ WrM c.own m nm bs en m' ∧ Rep w' T' q m' ∧ Ext w T w' T' := by
  have HQ := Lib.hid (And.intro hs (And.intro hB (And.intro hv (And.intro hd hms))))
  have HC := Lib.hid h
  have N1 := heap_alloc_new w (.cells #[.pointer (some ⟨p, 0, none⟩)] 26)
  have B1 : Below w.heap.size w _ := (Below.refl _ _).alloc (Nat.le_refl _) (.cells #[.pointer (some ⟨p, 0, none⟩)] 26)
  obtain ⟨W1, hW1⟩ : ∃ W, W = w.alloc (.cells #[.pointer (some ⟨p, 0, none⟩)] 26) := ⟨_, rfl⟩
  have s1 : W1.heap.size = w.heap.size + 1 := by rw [hW1]; exact al_size _ _
  rw [← hW1] at N1 B1
  have N2 := heap_alloc_new W1 (.cells #[.string (str nm)] 9)
  have B2 : Below W1.heap.size W1 _ := (Below.refl _ _).alloc (Nat.le_refl _) (.cells #[.string (str nm)] 9)
  obtain ⟨W2, hW2⟩ : ∃ W, W = W1.alloc (.cells #[.string (str nm)] 9) := ⟨_, rfl⟩
  have s2 : W2.heap.size = w.heap.size + 1 + 1 := by rw [hW2, al_size, s1]
  rw [← hW2] at N2 B2
  have N3 := heap_alloc_new W2 (.cells #[.slice A n cp] 30)
  have B23 : Below W2.heap.size W2 _ := (Below.refl _ _).alloc (Nat.le_refl _) (.cells #[.slice A n cp] 30)
  obtain ⟨W3, hW3⟩ : ∃ W, W = W2.alloc (.cells #[.slice A n cp] 30) := ⟨_, rfl⟩
  have sz : W3.heap.size = w.heap.size + 3 := by rw [hW3, al_size, s2]
  rw [← hW3] at N3 B23
  have B3 : Below w.heap.size w W3 := (B1.trans (B2.mono (by omega))).trans (B23.mono (by omega))
  rw [s1] at N2
  rw [s2] at N3
  have kc : W3.cell? ⟨w.heap.size, 0, none⟩ = some (.pointer (some ⟨p, 0, none⟩)) := cell_of_row W3 _ 0 _ 26 (0, 0) (((B23.block _ (by omega)).trans (B2.block _ (by omega))).trans N1)
  have kn : W3.cell? ⟨w.heap.size + 1, 0, none⟩ = some (.string (str nm)) := cell_of_row W3 _ 0 _ 9 (0, 0) ((B23.block _ (by omega)).trans N2)
  have kp : W3.cell? ⟨w.heap.size + 1 + 1, 0, none⟩ = some (.slice A n cp) := cell_of_row W3 _ 0 _ 30 (0, 0) N3
  rw [hW2, hW1] at hW3
  clear hW2 hW1 N1 N2 N3 B1 B2 B23 s1 s2
  have hK0 : ∀ y, Below w.heap.size w y → y.cell? ⟨p, 0, none⟩ = some (.pointer (some ⟨q, 0, none⟩)) := fun y hy => by
    obtain ⟨bA, bc, vv, gv, h⟩ := h
    rw [World.cell?_of_block (a := ⟨p, 0, none⟩) (hy.block p (Array.getElem?_eq_some_iff.1 h.row).1)]
    exact (row8 h.row).1
  have tp : T p = .none := by obtain ⟨bA, bc, vv, gv, h⟩ := h; exact h.tp
  have B4 : Below W3.heap.size W3 (W3.alloc (.cells #[.func (.func 75) #[] #[.pointer (some ⟨w.heap.size, 0, none⟩)], .func (.func 76) #[] #[.pointer (some ⟨w.heap.size, 0, none⟩), .pointer (some ⟨w.heap.size + 1 + 1, 0, none⟩)], .func (.func 77) #[] #[.pointer (some ⟨w.heap.size, 0, none⟩)], .func (.func 78) #[] #[.pointer (some ⟨w.heap.size, 0, none⟩), .pointer (some ⟨w.heap.size + 1, 0, none⟩)], .func (.func 15) #[.pointer (some ⟨q, 0, none⟩)] #[]] 39)) := (Below.refl _ _).alloc (Nat.le_refl _) _
  have B34 := B3.trans (B4.mono B3.size)
  have kk : ∀ a v, a.block < W3.heap.size → W3.cell? a = some v → (W3.alloc (.cells #[.func (.func 75) #[] #[.pointer (some ⟨w.heap.size, 0, none⟩)], .func (.func 76) #[] #[.pointer (some ⟨w.heap.size, 0, none⟩), .pointer (some ⟨w.heap.size + 1 + 1, 0, none⟩)], .func (.func 77) #[] #[.pointer (some ⟨w.heap.size, 0, none⟩)], .func (.func 78) #[] #[.pointer (some ⟨w.heap.size, 0, none⟩), .pointer (some ⟨w.heap.size + 1, 0, none⟩)], .func (.func 15) #[.pointer (some ⟨q, 0, none⟩)] #[]] 39)).cell? a = some v := fun a v ha e => (World.cell?_of_block (B4.block a.block ha)).trans e
  have tn : ∀ b, w.heap.size ≤ b → T b = .none := fun b hb => rep_old R hb
  have c41 := io_write (W3.alloc (.cells #[.func (.func 75) #[] #[.pointer (some ⟨w.heap.size, 0, none⟩)], .func (.func 76) #[] #[.pointer (some ⟨w.heap.size, 0, none⟩), .pointer (some ⟨w.heap.size + 1 + 1, 0, none⟩)], .func (.func 77) #[] #[.pointer (some ⟨w.heap.size, 0, none⟩)], .func (.func 78) #[] #[.pointer (some ⟨w.heap.size, 0, none⟩), .pointer (some ⟨w.heap.size + 1, 0, none⟩)], .func (.func 15) #[.pointer (some ⟨q, 0, none⟩)] #[]] 39)) T q m p w.heap.size (R.below B34) (by omega) (kk _ _ (by show w.heap.size < _; omega) kc) (tn _ (Nat.le_refl _)) (hK0 _ B34) tp (w.heap.size + 1) nm hnm (kk _ _ (by show w.heap.size + 1 < _; omega) kn) (tn _ (by omega)) (w.heap.size + 1 + 1) A cp n bs hn (rdn_below hbs B34) hA hbl0 hroom (kk _ _ (by show w.heap.size + 1 + 1 < _; omega) kp) (tn _ (by omega)) W3.heap.size (heap_alloc_new _ _) (tn _ (by omega))
  have kp3 := hK0 W3 B3
  have HB := Lib.hid (And.intro B34 (And.intro tp (And.intro hK0 (And.intro hnm (tn w.heap.size (Nat.le_refl _))))))
  have HKC := Lib.hid (kk _ _ (by show w.heap.size < W3.heap.size; omega) kc)
  have HSZ := Lib.hid sz
  clear B3 B4 B34 kn kp kk tn tp hK0 R h hs hB hv hd hms hnm hn hbs hA hbl0 hroom sz
  go_enter Tryz.func44, Tryz.ntmps44
  go_upto_region 1 with (fail)
  rw [← hW3]
  clear hW3
  go_upto_region 2 with (go_at_call 41; (refine c41.mono ?_); rintro e w5 ⟨en, m1, T5, rfl, hres, R5, X5⟩; have H5 := Lib.hid (And.intro hres (And.intro R5 X5)); clear hres R5 X5 c41)
  have hKc : w5.cell? ⟨w.heap.size, 0, none⟩ = some (.pointer (some ⟨p, 0, none⟩)) := by
    have e := World.cell?_of_block (a := ⟨w.heap.size, 0, none⟩) (H5.out.2.2.block w.heap.size (by have := HSZ.out; rw [al_size]; omega) HB.out.2.2.2.2)
    exact e.trans HKC.out
  have X5 := (ext_below HB.out.1 T).trans H5.out.2.2
  obtain ⟨d5, r5, n5⟩ := wres_small H5.out.1 HB.out.2.2.2.1 HQ.out.2.2.2.2
  have l5 := nms_list n5
  have c80 := undo_any w5 T5 p q m1 c en H5.out.2.1 (HC.out.keep (kp_ext X5)) HQ.out.1 HQ.out.2.1 HQ.out.2.2.1 (by have := HQ.out.2.2.2.1; omega) (by omega) l5.2
  have HX5 := Lib.hid X5
  clear d5 r5 n5 l5 X5 kc kp3
  by_cases h0 : en = 0
  · have h0' : (en : Int) = 0 := by omega
    have HC0 := Lib.hid h0
    clear h0 c80
    go_wp2
    go_ret
    exact ⟨0, m1, T5, rfl, ⟨en, m1, ⟨H5.out.1, rep_good H5.out.2.1⟩, Or.inl ⟨HC0.out, rfl, rfl⟩⟩, H5.out.2.1, HX5.out⟩
  · have h0' : ¬ (en : Int) = 0 := by omega
    have HC0 := Lib.hid h0
    clear h0
    go_wp2_with (go_at_call 80; (refine c80.mono ?_); rintro e w6 ⟨T6, rfl, R6, X6⟩; have H6 := Lib.hid (And.intro R6 X6); clear R6 X6 c80)
    go_ret
    exact ⟨_, _, T6, rfl, ⟨en, m1, ⟨H5.out.1, rep_good H5.out.2.1⟩, Or.inr ⟨HC0.out, rfl, rfl⟩⟩, H6.out.1, HX5.out.trans H6.out.2⟩
end Go.Proofs.YtdbhgkbmbbjpdaaGreatDoor.Chr
