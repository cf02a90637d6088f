/- One record more. -/
import Derived.Test.YtdbhgkbmbbjpdaaGreatDoorNs
namespace Go.Proofs.YtdbhgkbmbbjpdaaGreatDoor.Chr
variable {lo : Nat}
open Go.ChangeShapes Go.WideShapes Go.ChangeAt Go.RowKit
open Shf (S str)
open Coin (Rd Row Own sz coin got Pur takeV endV CoinSaid)
open Frm (pack err size kind cnt body noItem itemV OneSaid)
set_option maxRecDepth 8000
set_option linter.unusedVariables false
open Shf (Tag Ext Rep M RdN)
open Coin (CoinOwn)
theorem PAt.rdn {w : World} {T : Nat → Tag} {A : Option Addr} {c : Nat} {l : S} (h : PAt w T A c l) : RdN w T A l := by
  obtain ⟨h1, h2, h3⟩ := h
  refine ⟨fun h0 => ?_, fun h0 ad e => ?_⟩
  · obtain ⟨g, o, cur, e, k1, k2, k3⟩ := h3 h0
    refine ⟨_, e, fun j hj => ?_⟩
    rw [Addr.add_lit, cell_of_row w g (o + j) _ 5 (0, 0) k1]
    exact k3 j hj
  · obtain ⟨g, o, cur, e', k1, k2, k3⟩ := h3 h0
    rw [e'] at e
    injection e with e
    rw [← e]
    exact ⟨k2, (Array.getElem?_eq_some_iff.1 k1).1⟩
theorem PAt.below {w w' : World} {T : Nat → Tag} {A : Option Addr} {c : Nat} {l : S} (h : PAt w T A c l) (B : Below w.heap.size w w') : PAt w' T A c l := h.keep (kp_below B T)
theorem PAt.kq {w w' : World} {T T' : Nat → Tag} {A : Option Addr} {c : Nat} {l : S} (h : PAt w T A c l) (K : Kq lo w T w' T') : PAt w' T' A c l := by
  obtain ⟨h1, h2, h3⟩ := h
  refine ⟨h1, h2, fun h0 => ?_⟩
  obtain ⟨g, o, cur, e, k1, k2, k3⟩ := h3 h0
  have hl := (Array.getElem?_eq_some_iff.1 k1).1
  exact ⟨g, o, cur, e, (K.block g hl k2 (notTy k1 (by decide)) (notTy k1 (by decide)) (notTy k1 (by decide))).trans k1, K.tag g hl k2, k3⟩
theorem notTy_same {w w' : World} {b : Nat} {t : TypeId} (e : w'.heap[b]? = w.heap[b]?) (h : NotTy w b t) : NotTy w' b t := fun cur => by rw [e]; exact h cur
def AAt (w : World) (T : Nat → Tag) (A : Option Addr) (c : Nat) (l : S) : Prop := (A = none → c = 0) ∧ RdN w T A l ∧ (0 < l.length → ∀ ad, A = some ad → NotTy w ad.block 82 ∧ NotTy w ad.block 60 ∧ NotTy w ad.block 75)
theorem AAt.rdn {w : World} {T : Nat → Tag} {A : Option Addr} {c : Nat} {l : S} (h : AAt w T A c l) : RdN w T A l := h.2.1
theorem AAt.below {w w' : World} {T : Nat → Tag} {A : Option Addr} {c : Nat} {l : S} (h : AAt w T A c l) (B : Below w.heap.size w w') : AAt w' T A c l := ⟨h.1, h.2.1.ext (ext_below B T), fun h0 ad e => by
  have s := B.block ad.block (h.2.1.2 h0 ad e).2
  obtain ⟨a, b, d⟩ := h.2.2 h0 ad e
  exact ⟨notTy_same s a, notTy_same s b, notTy_same s d⟩⟩
theorem AAt.kq {w w' : World} {T T' : Nat → Tag} {A : Option Addr} {c : Nat} {l : S} (h : AAt w T A c l) (K : Kq lo w T w' T') : AAt w' T' A c l := by
  have s : ∀ ad, A = some ad → 0 < l.length → w'.heap[ad.block]? = w.heap[ad.block]? := fun ad e h0 => by
    obtain ⟨a, b, d⟩ := h.2.2 h0 ad e
    obtain ⟨t, hl⟩ := h.2.1.2 h0 ad e
    exact K.block _ hl t a b d
  refine ⟨h.1, ⟨h.2.1.1.at s, fun h0 ad e => ?_⟩, fun h0 ad e => ?_⟩
  · obtain ⟨t, hl⟩ := h.2.1.2 h0 ad e
    exact ⟨K.tag _ hl t, Nat.lt_of_lt_of_le hl K.size⟩
  · obtain ⟨a, b, d⟩ := h.2.2 h0 ad e
    exact ⟨notTy_same (s ad e h0) a, notTy_same (s ad e h0) b, notTy_same (s ad e h0) d⟩
theorem PAt.aat {w : World} {T : Nat → Tag} {A : Option Addr} {c : Nat} {l : S} (h : PAt w T A c l) : AAt w T A c l := ⟨h.1, h.rdn, fun h0 ad e => by
  obtain ⟨g, o, cur, e', k1, k2, k3⟩ := h.2.2 h0
  rw [e'] at e
  injection e with e
  rw [← e]
  exact ⟨notTy k1 (by decide), notTy k1 (by decide), notTy k1 (by decide)⟩⟩
theorem nms_mono {m : M} {k k' : Nat} (h : Nms m k) (hk : k ≤ k') : Nms m k' := ⟨Nat.le_trans h.1 hk, h.2⟩
theorem kq_set {w : World} {T : Nat → Tag} {p : Nat} {cur : Array Value} (h : w.heap[p]? = some (.cells cur 82 (0, 0))) (hlo : lo ≤ p) (i : Nat) (u : Value) : Kq lo w T (w.setCell ⟨p, i, none⟩ u) T := by
  have G := Shf.grown_set w p i u
  exact ⟨G.size, fun b _ h => h, fun b hb hn h82 _ _ => G.block b hb (fun e => by injection e with e; rw [e] at h82; exact h82 _ h), G.os, G.tape, G.output, fun b hb hn hl => G.block b hb (fun e => by injection e with e; omega)⟩
theorem bg_zero {c : CD} {m m' : M} {c' : CD} (h : BgM c m 0 m' c') : BRes m (vName c.nextNo) (titleB c.nextNo c.next) 0 m' ∧ c' = {c with vols := c.vols ++ [⟨c.nextNo, c.next, [], (titleB c.nextNo c.next).length⟩]} := by
  obtain ⟨en, m1, ⟨hr, _⟩, ⟨h0, _, rfl, h3⟩ | ⟨h0, h1, _, _⟩⟩ := h
  · rw [h0] at hr; exact ⟨hr, h3⟩
  · unfold undoM at h1
    split at h1
    · exact absurd h1.symm h0
    · rename_i h2; exact absurd h1.symm h2
theorem bg_ne {c : CD} {m m' : M} {c' : CD} {e : Nat} (h : BgM c m e m' c') (h0 : e ≠ 0) : c' = c := by
  obtain ⟨en, m1, hr, ⟨_, h1, _, _⟩ | ⟨_, _, _, h3⟩⟩ := h
  · exact absurd h1 h0
  · exact h3
def newV (c : CD) : VolD := ⟨c.nextNo, c.next, [], (titleB c.nextNo c.next).length⟩
def AdM (c : CD) (m : M) (k : UInt8) (bs : S) (e : Nat) (m' : M) (c' : CD) : Prop :=
  (∃ l d, c.vols = l ++ [d] ∧ d.size < c.most ∧ e = m.appendE (vName d.no) (pack k bs) ∧ m' = m.append (vName d.no) (pack k bs) ∧ c' = atlC c l d k bs e) ∨
  ((∀ l d, c.vols = l ++ [d] → ¬ d.size < c.most) ∧
    (((syM c m).1 ≠ 0 ∧ e = (syM c m).1 ∧ m' = (syM c m).2 ∧ c' = c) ∨
     ((syM c m).1 = 0 ∧ ∃ en mb cb, BgM c (syM c m).2 en mb cb ∧ ((en ≠ 0 ∧ e = en ∧ m' = mb ∧ c' = c) ∨ (en = 0 ∧ cb = {c with vols := c.vols ++ [newV c]} ∧
       ((mb.appendE (vName c.nextNo) (pack k bs) = 0 ∧ e = 0 ∧ m' = mb.append (vName c.nextNo) (pack k bs) ∧ c' = atlC {c with vols := c.vols ++ [newV c]} c.vols (newV c) k bs 0) ∨
        (mb.appendE (vName c.nextNo) (pack k bs) ≠ 0 ∧ e = (undoM c.own (mb.append (vName c.nextNo) (pack k bs)) (mb.appendE (vName c.nextNo) (pack k bs))).1 ∧ m' = (undoM c.own (mb.append (vName c.nextNo) (pack k bs)) (mb.appendE (vName c.nextNo) (pack k bs))).2 ∧ c' = c)))))))
theorem syM_small (c : CD) (m : M) : (syM c m).2.done ≤ m.done + 1 ∧ (syM c m).2.room = m.room := by
  unfold syM
  split
  · exact ⟨Nat.le_succ _, rfl⟩
  · exact sm_sync m _
theorem syM_nms {c : CD} {m : M} (h : Nms m 8990) : Nms (syM c m).2 8991 := by
  unfold syM
  split
  · exact h.more
  · exact (nms_sync h _).more
theorem new_small {c : CD} (hs : c.Small) (hno : c.nextNo < 100) (hnx : c.next < 1000000000) (hnv : c.vols.length < 1000000) : ({c with vols := c.vols ++ [newV c]} : CD).Small := by
  refine ⟨hs.hF, hs.hU, by show (c.vols ++ [newV c]).length ≤ _; simp; omega, fun d hd => ?_⟩
  rcases List.mem_append.1 hd with hd | hd
  · exact hs.v d hd
  · rw [List.mem_singleton.1 hd]
    have := titleB_len c.nextNo c.next
    exact ⟨by show c.nextNo < _; omega, hnx, by show 0 ≤ _; omega, by show (titleB _ _).length ≤ _; omega⟩
theorem new_nos {c : CD} (hv : ∀ d ∈ c.vols, d.no < 100) (hno : c.nextNo < 100) : ∀ d ∈ c.vols ++ [newV c], d.no < 100 := fun d hd => by
  rcases List.mem_append.1 hd with hd | hd
  · exact hv d hd
  · rw [List.mem_singleton.1 hd]; exact hno
theorem CAtV.initial {w : World} {T : Nat → Tag} {p q : Nat} {c : CD} {x : VolD} {bA : Option Addr} {bc : Nat} {vv : Value} {gv : Option Nat} (h : CAtV lo w T p q {c with vols := c.vols ++ [x]} bA bc vv gv) :
    ∃ g off cap, vv = .slice (some ⟨g, off, none⟩) (c.vols.length + 1) cap ∧ gv = some g ∧ c.vols.length + 1 ≤ cap ∧ ∀ y, Below w.heap.size w y → VsAt lo y T (.slice (some ⟨g, off, none⟩) c.vols.length cap) c.vols (some g) := by
  obtain ⟨vs0, lv, gl, h1, h2⟩ := VsAt.parts h.vs
  obtain ⟨g, off, cap, lv', gl', h3, h4, h5, -⟩ := h.vs.at (c.vols ++ [x]).length.pred (by simp)
  have hl : (c.vols ++ [x]).length = c.vols.length + 1 := by simp
  subst h3 h4
  have h5 : (c.vols ++ [x]).length ≤ cap := h5
  refine ⟨g, off, cap, by show _ = _; rw [← hl], rfl, by omega, fun y hy => ?_⟩
  have e := (h2.init).1.keep (kp_below hy T)
  have e2 : vs0.length = c.vols.length := by rw [h1]; simp
  rw [e2] at e
  have e3 := e.at
  rw [← h1] at e3
  exact e3
theorem add_io (w : World) (T : Nat → Tag) (p q : Nat) (m : M) (c : CD) (w2 : World) (hw2 : w2 = w.alloc (.cells #[.func (.func 23) #[.pointer (some ⟨p, 0, none⟩)] #[], .func (.func 84) #[.pointer (some ⟨p, 0, none⟩)] #[]] 39)) (R : Rep w T q m) (h : CAt lo w T p q c) (hs : c.Small) (hB : c.hB < 100) (hv : ∀ d ∈ c.vols, d.no < 100) (hd : m.done < 690000) (hms : Nms m 8990) (hroom : -1000000000000 ≤ m.room) (hno : c.nextNo < 100) :
    Calls Tryz.prog 41 #[.slice (some ⟨w.heap.size, 0, none⟩) 2 2] w2 fun e w' => ∃ en : Nat, e = .returned (.int .i64 (en : Int)) ∧ ∃ m3 c3 T3, (((syM c m).1 ≠ 0 ∧ en = (syM c m).1 ∧ m3 = (syM c m).2 ∧ c3 = c) ∨ ((syM c m).1 = 0 ∧ BgM c (syM c m).2 en m3 c3)) ∧ Rep w' T3 q m3 ∧ CAt lo w' T3 p q c3 ∧ Kq lo w T w' T3 := by
  have B2 : Below w.heap.size w w2 := by rw [hw2]; exact (Below.refl _ _).alloc (Nat.le_refl _) _
  have N2 : w2.heap[w.heap.size]? = some (.cells #[.func (.func 23) #[.pointer (some ⟨p, 0, none⟩)] #[], .func (.func 84) #[.pointer (some ⟨p, 0, none⟩)] #[]] 39 (0, 0)) := by rw [hw2]; exact heap_alloc_new w _
  have sm := syM_small c m
  have tb : T w.heap.size = .none := rep_old R (Nat.le_refl _)
  refine io_23_84 w2 p w.heap.size (fun y => y = w2) (fun y => (syM c m).1 = 0 ∧ ∃ T1, Rep y T1 q (syM c m).2 ∧ Ext w2 T y T1) _ rfl (fun y e => by rw [e]; exact N2) (fun y ⟨_, T1, _, X⟩ => (X.block _ (Array.getElem?_eq_some_iff.1 N2).1 tb).trans N2) (fun y e => ?_) (fun y ⟨h0, T1, R1, X1⟩ => ?_)
  · rw [e]
    refine (sync_any w2 T p q m c (R.below B2) (h.keep (kp_below B2 T)) hs hv (by omega)).mono ?_
    rintro e w' ⟨T', rfl, R', X'⟩
    refine ⟨_, rfl, fun h0 => ⟨h0, T', R', X'⟩, fun h0 => ⟨_, c, T', Or.inl ⟨h0, rfl, rfl, rfl⟩, R', h.keep ((kp_below B2 T).trans (kp_ext X')), kq_kp ((kp_below B2 T).trans (kp_ext X'))⟩⟩
  · refine (begin_any y T1 p q (syM c m).2 c R1 (h.keep ((kp_below B2 T).trans (kp_ext X1))) hs hB hv (by omega) (nms_mono (syM_nms hms) (by decide)) (by rw [sm.2]; exact hroom) hno).mono ?_
    rintro e w' ⟨en, m', c', T', rfl, hb, R', C', K'⟩
    exact ⟨en, rfl, m', c', T', Or.inr ⟨h0, hb⟩, R', C', (kq_kp ((kp_below B2 T).trans (kp_ext X1))).trans K'⟩
set_option maxHeartbeats 4000000 in
theorem add_any (w : World) (T : Nat → Tag) (p q : Nat) (m : M) (c : CD) (R : Rep w T q m) (h : CAt lo w T p q c) (hs : c.Small) (hB : c.hB < 100) (hv : ∀ d ∈ c.vols, d.no < 100) (hd : m.done < 690000) (hms : Nms m 8990) (hroom : -1000000000000 ≤ m.room) (hno : c.nextNo < 100) (hnx : c.next < 1000000000) (hnv : c.vols.length < 1000000) (k : UInt8) (A : Option Addr) (n cp : Nat) (bs : S) (hn : n = bs.length) (hP : AAt w T A cp bs) (hbl : bs.length ≤ 1100000) :
    Calls Tryz.prog 51 #[.pointer (some ⟨p, 0, none⟩), .int .u8 (k.toNat : Int), .slice A n cp] w fun e w' => ∃ en m' c' T', e = .returned (.int .i64 ((en : Nat) : Int)) ∧ AdM c m k bs en m' c' ∧ Rep w' T' q m' ∧ CAt lo w' T' p q c' ∧ Kq lo w T w' T' := by
  have HQ := Lib.hid (And.intro hs (And.intro hB (And.intro hv (And.intro hd (And.intro hms (And.intro hroom (And.intro hno (And.intro hnx (And.intro hnv True.intro)))))))))
  have HR := Lib.hid (And.intro R (And.intro h (And.intro hP True.intro)))
  have HL := Lib.hid (And.intro hn hbl)
  have HBW := Lib.hid ((Below.refl w.heap.size w).drew)
  have hc := h
  obtain ⟨bA, bc, vv, gv, hc⟩ := hc
  have hr := hc.row
  unfold cC at hr
  have hrow : ∀ y, Below w.heap.size w y → y.heap[p]? = w.heap[p]? := fun y hy => hy.block p (Array.getElem?_eq_some_iff.1 hr).1
  by_cases h0 : c.vols = []
  · have HNO : Hid (∀ l d, c.vols = l ++ [d] → ¬ d.size < c.most) := fun l d e => by rw [h0] at e; simp at e
    obtain ⟨A0, c0, rfl⟩ := hc.nil
    rw [h0] at hr
    have HC : Hid (∀ y, Below w.heap.size w y → y.cell? ⟨p, 6, none⟩ = some (.slice A0 0 c0)) := fun y hy => (row8 ((hrow y hy).trans hr)).2.2.2.2.2.2.1
    clear hs hB hv hd hms hroom hno hnx hnv R h hP hn hbl hc hr hrow h0
    go_enter Tryz.func51, Tryz.ntmps51
    go_upto_region 1 with (fail)
    refine wp_region_noPanic ?_
    refine wp_region_held_drew (S := fun y : World => y.cell? ⟨p, 6, none⟩ = some (.slice A0 0 c0)) (by kernel_rfl) (HC.out w.drew HBW.out) (fun hHeld => ?_)
    generalize w.drew = wd at *
    refine wpAnyH_take (i := 0) (oi := ⟨some 9, .move (.tmp 0), 26, "chronicle.go:104", #[], none⟩) (v := .pointer (some ⟨p, 0, none⟩)) rfl (by kernel_rfl) (by kernel_rfl) (by kernel_rfl) (fun _ _ _ h => h) (Or.inl ⟨by rfl, fun w hSw => by go_simp⟩) (by assumption) ?_
    try simp only [Act.put, stA, stB, stC]
    refine wpAnyH_take (i := 1) (oi := ⟨some 10, .nilCheck (.tmp 9), 0, "chronicle.go:104", #[⟨0, .data⟩], none⟩) (v := .pointer (some ⟨p, 0, none⟩)) rfl (by kernel_rfl) (by kernel_rfl) (by kernel_rfl) (fun _ _ _ h => h) (Or.inl ⟨by rfl, fun w hSw => by go_simp⟩) (by assumption) ?_
    try simp only [Act.put, stA, stB, stC]
    refine wpAnyH_take (i := 2) (oi := ⟨some 11, .fieldAddr 82 (.tmp 10) 4, 0, "chronicle.go:104", #[⟨1, .data⟩], none⟩) (v := .pointer (some ⟨p, 6, none⟩)) rfl (by kernel_rfl) (by kernel_rfl) (by kernel_rfl) (fun _ _ _ h => h) (Or.inl ⟨by rfl, fun w hSw => by go_simp⟩) (by assumption) ?_
    try simp only [Act.put, stA, stB, stC]
    refine wpAnyH_take (i := 3) (oi := ⟨some 12, .load 53 (.tmp 11), 53, "chronicle.go:104", #[⟨2, .data⟩], none⟩) (v := .slice A0 0 c0) rfl (by kernel_rfl) (by kernel_rfl) (by kernel_rfl) (fun _ _ _ h => h) (Or.inl ⟨by rfl, fun w hSw => by go_simp⟩) (by assumption) ?_
    try simp only [Act.put, stA, stB, stC]
    refine wpAnyH_take (i := 4) (oi := ⟨some 13, .call ⟨.builtin .len, #[.tmp 12], #[53]⟩, 3, "chronicle.go:104", #[⟨3, .data⟩], none⟩) (v := .int .i64 0) rfl (by kernel_rfl) (by kernel_rfl) (by kernel_rfl) (fun _ _ _ h => h) (Or.inl ⟨by rfl, fun w hSw => by go_simp⟩) (by assumption) ?_
    try simp only [Act.put, stA, stB, stC]
    refine wpAnyH_take (i := 5) (oi := ⟨some 14, .binOp .gtr 3 (.tmp 13) (.const (.int .i64 0)) 3, 4, "chronicle.go:104", #[⟨4, .data⟩], none⟩) (v := .bool false) rfl (by kernel_rfl) (by kernel_rfl) (by kernel_rfl) (fun _ _ _ h => h) (Or.inl ⟨by rfl, fun w hSw => by go_simp⟩) (by assumption) ?_
    try simp only [Act.put, stA, stB, stC]
    refine wpAnyH_take (i := 6) (oi := ⟨some 15, .move (.tmp 14), 4, "chronicle.go:104", #[⟨5, .data⟩], none⟩) (v := .bool false) rfl (by kernel_rfl) (by kernel_rfl) (by kernel_rfl) (fun _ _ _ h => h) (Or.inl ⟨by rfl, fun w hSw => by go_simp⟩) (by assumption) ?_
    try simp only [Act.put, stA, stB, stC]
    refine wpAnyH_take (i := 7) (oi := ⟨some 16, .move (.tmp 0), 26, "chronicle.go:104", #[⟨6, .guard⟩], some (6, true)⟩) (v := undef) rfl (by kernel_rfl) (by kernel_rfl) (by kernel_rfl) (fun _ _ _ h => h) (Or.inr ⟨by rfl, rfl⟩) (by assumption) ?_
    try simp only [Act.put, stA, stB, stC]
    refine wpAnyH_take (i := 8) (oi := ⟨some 17, .call ⟨.value (.func 49), #[.tmp 16], #[26]⟩, 89, "chronicle.go:104", #[⟨7, .data⟩, ⟨6, .chain⟩, ⟨6, .guard⟩], some (6, true)⟩) (v := undef) rfl (by kernel_rfl) (by kernel_rfl) (by kernel_rfl) (fun _ _ _ h => h) (Or.inr ⟨by rfl, rfl⟩) (by assumption) ?_
    try simp only [Act.put, stA, stB, stC]
    refine wpAnyH_take (i := 9) (oi := ⟨some 18, .nilCheck (.tmp 17), 0, "chronicle.go:104", #[⟨8, .data⟩, ⟨6, .guard⟩], some (6, true)⟩) (v := undef) rfl (by kernel_rfl) (by kernel_rfl) (by kernel_rfl) (fun _ _ _ h => h) (Or.inr ⟨by rfl, rfl⟩) (by assumption) ?_
    try simp only [Act.put, stA, stB, stC]
    refine wpAnyH_take (i := 10) (oi := ⟨some 19, .fieldAddr 60 (.tmp 18) 3, 0, "chronicle.go:104", #[⟨9, .data⟩, ⟨6, .guard⟩], some (6, true)⟩) (v := undef) rfl (by kernel_rfl) (by kernel_rfl) (by kernel_rfl) (fun _ _ _ h => h) (Or.inr ⟨by rfl, rfl⟩) (by assumption) ?_
    try simp only [Act.put, stA, stB, stC]
    refine wpAnyH_take (i := 11) (oi := ⟨some 20, .load 3 (.tmp 19), 3, "chronicle.go:104", #[⟨10, .data⟩, ⟨6, .guard⟩], some (6, true)⟩) (v := undef) rfl (by kernel_rfl) (by kernel_rfl) (by kernel_rfl) (fun _ _ _ h => h) (Or.inr ⟨by rfl, rfl⟩) (by assumption) ?_
    try simp only [Act.put, stA, stB, stC]
    refine wpAnyH_take (i := 12) (oi := ⟨some 21, .move (.tmp 0), 26, "chronicle.go:104", #[⟨6, .guard⟩], some (6, true)⟩) (v := undef) rfl (by kernel_rfl) (by kernel_rfl) (by kernel_rfl) (fun _ _ _ h => h) (Or.inr ⟨by rfl, rfl⟩) (by assumption) ?_
    try simp only [Act.put, stA, stB, stC]
    refine wpAnyH_take (i := 13) (oi := ⟨some 22, .nilCheck (.tmp 21), 0, "chronicle.go:104", #[⟨12, .data⟩, ⟨6, .guard⟩], some (6, true)⟩) (v := undef) rfl (by kernel_rfl) (by kernel_rfl) (by kernel_rfl) (fun _ _ _ h => h) (Or.inr ⟨by rfl, rfl⟩) (by assumption) ?_
    try simp only [Act.put, stA, stB, stC]
    refine wpAnyH_take (i := 14) (oi := ⟨some 23, .fieldAddr 82 (.tmp 22) 1, 0, "chronicle.go:104", #[⟨13, .data⟩, ⟨6, .guard⟩], some (6, true)⟩) (v := undef) rfl (by kernel_rfl) (by kernel_rfl) (by kernel_rfl) (fun _ _ _ h => h) (Or.inr ⟨by rfl, rfl⟩) (by assumption) ?_
    try simp only [Act.put, stA, stB, stC]
    refine wpAnyH_take (i := 15) (oi := ⟨some 24, .load 3 (.tmp 23), 3, "chronicle.go:104", #[⟨14, .data⟩, ⟨6, .guard⟩], some (6, true)⟩) (v := undef) rfl (by kernel_rfl) (by kernel_rfl) (by kernel_rfl) (fun _ _ _ h => h) (Or.inr ⟨by rfl, rfl⟩) (by assumption) ?_
    try simp only [Act.put, stA, stB, stC]
    refine wpAnyH_take (i := 16) (oi := ⟨some 25, .binOp .lss 3 (.tmp 20) (.tmp 24) 3, 4, "chronicle.go:104", #[⟨11, .data⟩, ⟨15, .data⟩, ⟨6, .guard⟩], some (6, true)⟩) (v := undef) rfl (by kernel_rfl) (by kernel_rfl) (by kernel_rfl) (fun _ _ _ h => h) (Or.inr ⟨by rfl, rfl⟩) (by assumption) ?_
    try simp only [Act.put, stA, stB, stC]
    refine wpAnyH_take (i := 17) (oi := ⟨some 26, .pick (.tmp 15) (.tmp 25) (.const (.bool false)), 4, "chronicle.go:104", #[⟨6, .data⟩, ⟨16, .data⟩], none⟩) (v := .bool false) rfl (by kernel_rfl) (by kernel_rfl) (by kernel_rfl) (fun _ _ _ h => h) (Or.inl ⟨by rfl, fun w hSw => by go_simp⟩) (by assumption) ?_
    try simp only [Act.put, stA, stB, stC]
    refine wpAnyH_done (by kernel_rfl) ?_ _
    try unfold NoPanic
    have HB1 := HBW
    generalize wd = w1 at *
    have R1 := HR.out.1.below HB1.out
    have C1 := HR.out.2.1.keep (kp_below HB1.out T)
    have B2 : Below w1.heap.size w1 (w1.alloc (.cells #[.func (.func 23) #[.pointer (some ⟨p, 0, none⟩)] #[], .func (.func 84) #[.pointer (some ⟨p, 0, none⟩)] #[]] 39)) := (Below.refl _ _).alloc (Nat.le_refl _) _
    have N2 := heap_alloc_new w1 (.cells #[.func (.func 23) #[.pointer (some ⟨p, 0, none⟩)] #[], .func (.func 84) #[.pointer (some ⟨p, 0, none⟩)] #[]] 39)
    have al2 := al_size w1 (.cells #[.func (.func 23) #[.pointer (some ⟨p, 0, none⟩)] #[], .func (.func 84) #[.pointer (some ⟨p, 0, none⟩)] #[]] 39)
    have c41 := add_io w1 T p q m c _ rfl R1 C1 HQ.out.1 HQ.out.2.1 HQ.out.2.2.1 HQ.out.2.2.2.1 HQ.out.2.2.2.2.1 HQ.out.2.2.2.2.2.1 HQ.out.2.2.2.2.2.2.1
    clear R1 C1 B2 N2 al2
    go_upto_region 4 with (go_at_call 41; (refine c41.mono ?_); rintro e w3 ⟨en, rfl, m3, c3, T3, h3, R3, C3, K3⟩; have H3 := Lib.hid (And.intro h3 (And.intro R3 (And.intro C3 K3))); clear h3 R3 C3 K3 c41)
    by_cases h0 : en = 0
    · have h0' : (en : Int) = 0 := by omega
      obtain ⟨hsy, hbg⟩ : (syM c m).1 = 0 ∧ BgM c (syM c m).2 0 m3 c3 := by
        rcases H3.out.1 with ⟨h, e, _⟩ | ⟨h, hb⟩
        · exact absurd (e.symm.trans h0) h
        · exact ⟨h, by rw [h0] at hb; exact hb⟩
      obtain ⟨hres, hc3⟩ := bg_zero hbg
      obtain ⟨d3, r3, n3⟩ := bres_small hres (vName_le _ HQ.out.2.2.2.2.2.2.1) (k := 8991) (syM_nms HQ.out.2.2.2.2.1)
      have sm := syM_small c m
      have C3 := H3.out.2.2.1
      rw [hc3] at C3
      have P3 := (HR.out.2.2.1.below HB1.out).kq H3.out.2.2.2
      have hd4 := HQ.out.2.2.2.1
      have c83 := atl_any w3 T3 p q m3 {c with vols := c.vols ++ [newV c]} H3.out.2.1 C3 (new_small HQ.out.1 HQ.out.2.2.2.2.2.2.1 HQ.out.2.2.2.2.2.2.2.1 HQ.out.2.2.2.2.2.2.2.2.1) (new_nos HQ.out.2.2.1 HQ.out.2.2.2.2.2.2.1) (by omega) (by rw [r3, sm.2]; exact HQ.out.2.2.2.2.2.1) c.vols (newV c) rfl k A n cp bs HL.out.1 P3.rdn P3.1 HL.out.2
      have nm9 := nms_list (nms_append n3 (vName c.nextNo) (pack k bs))
      have HD3 : Hid ((m3.append (vName c.nextNo) (pack k bs)).done < 790000 ∧ (m3.append (vName c.nextNo) (pack k bs)).list.length ≤ 9000 ∧ ∀ s ∈ (m3.append (vName c.nextNo) (pack k bs)).list, s.length ≤ 1000) := ⟨by have := sm_append m3 (vName c.nextNo) (pack k bs); omega, by omega, nm9.2⟩
      have HBG := Lib.hid (And.intro hsy (And.intro hbg hc3))
      obtain ⟨e1, he1⟩ : ∃ n : Nat, n = m3.appendE (vName c.nextNo) (pack k bs) := ⟨_, rfl⟩
      have HE1 := Lib.hid he1
      have c83' : Calls Tryz.prog 83 #[.pointer (some ⟨p, 0, none⟩), .int .u8 (k.toNat : Int), .slice A n cp] w3 fun e w' => ∃ T', e = .returned (.int .i64 (e1 : Int)) ∧ Rep w' T' q (m3.append (vName c.nextNo) (pack k bs)) ∧ CAt lo w' T' p q (atlC {c with vols := c.vols ++ [newV c]} c.vols (newV c) k bs e1) ∧ Kq lo w3 T3 w' T' := by rw [he1]; exact c83
      clear c83 hsy hbg hres hc3 d3 r3 n3 sm C3 P3 hd4 nm9 h0 he1
      go_upto_region 7 with (go_at_call 83; (refine c83'.mono ?_); rintro e w5 ⟨T4, rfl, R4, C4, K4⟩; have H4 := Lib.hid (And.intro R4 (And.intro C4 K4)); clear R4 C4 K4 c83')
      have HKK := Lib.hid (((kq_kp (kp_below HB1.out T)).trans H3.out.2.2.2).trans H4.out.2.2)
      by_cases h1 : e1 = 0
      · have h1' : (e1 : Int) = 0 := by omega
        have HE0 := Lib.hid h1
        clear h1
        go_wp2
        go_ret
        exact ⟨0, _, _, T4, rfl, Or.inr ⟨HNO.out, Or.inr ⟨HBG.out.1, 0, m3, c3, HBG.out.2.1, Or.inr ⟨rfl, HBG.out.2.2, Or.inl ⟨HE1.out.symm.trans HE0.out, rfl, rfl, rfl⟩⟩⟩⟩, H4.out.1, by rw [← HE0.out]; exact H4.out.2.1, HKK.out⟩
      · have h1' : ¬ (e1 : Int) = 0 := by omega
        have HFIN : Hid (∀ w7 T7 (en9 : Nat), en9 = (undoM c.own (m3.append (vName c.nextNo) (pack k bs)) e1).1 → Rep w7 T7 q (undoM c.own (m3.append (vName c.nextNo) (pack k bs)) e1).2 → CAt lo w7 T7 p q c → Kq lo w5 T4 w7 T7 → ∃ en m' c' T', Ending.returned (.int .i64 (en9 : Int)) = .returned (.int .i64 ((en : Nat) : Int)) ∧ AdM c m k bs en m' c' ∧ Rep w7 T' q m' ∧ CAt lo w7 T' p q c' ∧ Kq lo w T w7 T') := fun w7 T7 en9 e9 r9 c9 k9 => by
          refine ⟨en9, _, c, T7, rfl, Or.inr ⟨HNO.out, Or.inr ⟨HBG.out.1, 0, m3, c3, HBG.out.2.1, Or.inr ⟨rfl, HBG.out.2.2, Or.inr ⟨by rw [← HE1.out]; exact h1, by rw [← HE1.out]; exact e9, rfl, rfl⟩⟩⟩⟩, by rw [← HE1.out]; exact r9, c9, HKK.out.trans k9⟩
        have C4 := H4.out.2.1
        rw [show atlC {c with vols := c.vols ++ [newV c]} c.vols (newV c) k bs e1 = {c with vols := c.vols ++ [newV c]} from if_neg h1] at C4
        obtain ⟨bA, bc, vv, gv, C5⟩ := C4
        obtain ⟨g, off, cap, rfl, rfl, hcap, hPi⟩ := C5.initial
        have r5 := C5.row
        unfold cC at r5
        have lnv : (c.vols ++ [newV c]).length = c.vols.length + 1 := by simp
        obtain ⟨nv, hnv⟩ : ∃ n, n = c.vols.length := ⟨_, rfl⟩
        have HWR : Hid (IntKind.i64.wrap (nv : Int) = (nv : Int)) := by show _ = _; rw [IntKind.wrap_i64]; have := HQ.out.1.n; omega
        have HCP : Hid (nv ≤ cap) := by show nv ≤ cap; omega
        rw [← hnv] at lnv hPi
        have hrow : ∀ y, Below w5.heap.size w5 y → y.heap[p]? = w5.heap[p]? := fun y hy => hy.block p (Array.getElem?_eq_some_iff.1 r5).1
        have HP6 : Hid (∀ y, Below w5.heap.size w5 y → y.cell? ⟨p, 6, none⟩ = some (.slice (some ⟨g, off, none⟩) (nv + 1) cap)) := fun y hy => by
          have e := (row8 ((hrow y hy).trans r5)).2.2.2.2.2.2.1
          rw [e, hnv]
        have HF6 : Hid (∀ y, Below w5.heap.size w5 y → y.frozen? ⟨p, 6, none⟩ = false) := fun y hy => frozen_of_row _ _ _ _ _ ((hrow y hy).trans r5)
        have HEND : Hid (∀ y, Below w5.heap.size w5 y → CAt lo (y.setCell ⟨p, 6, none⟩ (.slice (some ⟨g, off, none⟩) nv cap)) T4 p q c ∧ Kq lo w5 T4 (y.setCell ⟨p, 6, none⟩ (.slice (some ⟨g, off, none⟩) nv cap)) T4 ∧ Rep (y.setCell ⟨p, 6, none⟩ (.slice (some ⟨g, off, none⟩) nv cap)) T4 q (m3.append (vName c.nextNo) (pack k bs))) := fun y hy => by
          have Cy := C5.keep (kp_below hy T4)
          have Ry := H4.out.1.below hy
          have G := Shf.grown_set y p 6 (.slice (some ⟨g, off, none⟩) nv cap)
          exact ⟨⟨bA, bc, _, some g, Cy.set 6 _ c bA bc _ (some g) rfl Cy.ba (hPi y hy)⟩, (kq_kp (kp_below hy T4)).trans (kq_set Cy.row Cy.lp _ _), Ry.far (P := fun b => b = p) ⟨G.os, G.tape, G.output, G.size, fun b hlt hne => G.block b hlt (fun e => hne (by injection e))⟩ (fun b hT9 hP => hT9 (by rw [hP]; exact Cy.tp))⟩
        clear C5 r5 hrow hPi lnv hcap h1 hnv
        go_upto_region 8 with (fail)
        have HBW := Lib.hid ((Below.refl w5.heap.size w5).drew)
        refine wp_region_noPanic ?_
        refine wp_region_held_drew (S := fun y : World => True) (by kernel_rfl) trivial (fun hHeld => ?_)
        generalize w5.drew = wd at *
        refine wpAnyH_take (i := 0) (oi := ⟨some 46, .move (.tmp 0), 26, "chronicle.go:112", #[], none⟩) (v := .pointer (some ⟨p, 0, none⟩)) rfl (by kernel_rfl) (by kernel_rfl) (by kernel_rfl) (fun _ _ _ h => h) (Or.inl ⟨by rfl, fun w hSw => by go_simp⟩) (by assumption) ?_
        try simp only [Act.put, stA, stB, stC]
        refine wpAnyH_take (i := 1) (oi := ⟨some 47, .move (.tmp 0), 26, "chronicle.go:112", #[], none⟩) (v := .pointer (some ⟨p, 0, none⟩)) rfl (by kernel_rfl) (by kernel_rfl) (by kernel_rfl) (fun _ _ _ h => h) (Or.inl ⟨by rfl, fun w hSw => by go_simp⟩) (by assumption) ?_
        try simp only [Act.put, stA, stB, stC]
        refine wpAnyH_take (i := 2) (oi := ⟨some 48, .nilCheck (.tmp 47), 0, "chronicle.go:112", #[⟨1, .data⟩], none⟩) (v := .pointer (some ⟨p, 0, none⟩)) rfl (by kernel_rfl) (by kernel_rfl) (by kernel_rfl) (fun _ _ _ h => h) (Or.inl ⟨by rfl, fun w hSw => by go_simp⟩) (by assumption) ?_
        try simp only [Act.put, stA, stB, stC]
        refine wpAnyH_take (i := 3) (oi := ⟨some 49, .fieldAddr 82 (.tmp 48) 4, 0, "chronicle.go:112", #[⟨2, .data⟩], none⟩) (v := .pointer (some ⟨p, 6, none⟩)) rfl (by kernel_rfl) (by kernel_rfl) (by kernel_rfl) (fun _ _ _ h => h) (Or.inl ⟨by rfl, fun w hSw => by go_simp⟩) (by assumption) ?_
        try simp only [Act.put, stA, stB, stC]
        refine wpAnyH_take (i := 5) (oi := ⟨some 51, .move (.tmp 0), 26, "chronicle.go:112", #[], none⟩) (v := .pointer (some ⟨p, 0, none⟩)) rfl (by kernel_rfl) (by kernel_rfl) (by kernel_rfl) (fun _ _ _ h => h) (Or.inl ⟨by rfl, fun w hSw => by go_simp⟩) (by assumption) ?_
        try simp only [Act.put, stA, stB, stC]
        refine wpAnyH_take (i := 6) (oi := ⟨some 52, .nilCheck (.tmp 51), 0, "chronicle.go:112", #[⟨5, .data⟩], none⟩) (v := .pointer (some ⟨p, 0, none⟩)) rfl (by kernel_rfl) (by kernel_rfl) (by kernel_rfl) (fun _ _ _ h => h) (Or.inl ⟨by rfl, fun w hSw => by go_simp⟩) (by assumption) ?_
        try simp only [Act.put, stA, stB, stC]
        refine wpAnyH_take (i := 7) (oi := ⟨some 53, .fieldAddr 82 (.tmp 52) 4, 0, "chronicle.go:112", #[⟨6, .data⟩], none⟩) (v := .pointer (some ⟨p, 6, none⟩)) rfl (by kernel_rfl) (by kernel_rfl) (by kernel_rfl) (fun _ _ _ h => h) (Or.inl ⟨by rfl, fun w hSw => by go_simp⟩) (by assumption) ?_
        try simp only [Act.put, stA, stB, stC]
        refine wpAnyH_ready (rs := [4, 8]) (by kernel_rfl) (by simp) ?_
        refine (AllReadyH.cons (o := ⟨some 50, .load 53 (.tmp 49), 53, "chronicle.go:112", #[⟨3, .data⟩], none⟩) rfl (fun K hK => ?_) (AllReadyH.cons (o := ⟨some 54, .load 53 (.tmp 53), 53, "chronicle.go:112", #[⟨7, .data⟩], none⟩) rfl (fun K hK => ?_) AllReadyH.nil))
        · have y6 := HP6.out wd HBW.out
          go_simp
          clear y6
          refine hK.out _ _ (hHeld) (fun hHeld => ?_)
          clear hK K
          try simp only [Act.put, stA, stB, stC]
          skip
          refine wpAnyH_ready (rs := [8]) (by kernel_rfl) (by simp) ?_
          refine AllReadyH.cons (o := ⟨some 54, .load 53 (.tmp 53), 53, "chronicle.go:112", #[⟨7, .data⟩], none⟩) rfl (fun K hK => ?_) AllReadyH.nil
          have y6 := HP6.out wd HBW.out
          go_simp
          clear y6
          refine hK.out _ _ (hHeld) (fun hHeld => ?_)
          clear hK K
          try simp only [Act.put, stA, stB, stC]
          refine wpAnyH_take (i := 9) (oi := ⟨some 55, .call ⟨.builtin .len, #[.tmp 54], #[53]⟩, 3, "chronicle.go:112", #[⟨8, .data⟩], none⟩) (v := .int .i64 ((nv + 1 : Nat) : Int)) rfl (by kernel_rfl) (by kernel_rfl) (by kernel_rfl) (fun _ _ _ h => h) (Or.inl ⟨by rfl, fun w hSw => by go_simp⟩) (by assumption) ?_
          try simp only [Act.put, stA, stB, stC]
          refine wpAnyH_take (i := 10) (oi := ⟨some 56, .binOp .sub 3 (.tmp 55) (.const (.int .i64 1)) 3, 3, "chronicle.go:112", #[⟨9, .data⟩], none⟩) (v := .int .i64 (nv : Int)) rfl (by kernel_rfl) (by kernel_rfl) (by kernel_rfl) (fun _ _ _ h => h) (Or.inl ⟨by rfl, fun w hSw => by have hz := HWR.out; go_simp⟩) (by assumption) ?_
          try simp only [Act.put, stA, stB, stC]
          refine wpAnyH_take (i := 11) (oi := ⟨some 57, .slice 53 (.tmp 50) none (some (.tmp 56)) none, 53, "chronicle.go:112", #[⟨4, .data⟩, ⟨10, .data⟩], none⟩) (v := .slice (some ⟨g, off, none⟩) nv cap) rfl (by kernel_rfl) (by kernel_rfl) (by kernel_rfl) (fun _ _ _ h => h) (Or.inl ⟨by rfl, fun w hSw => by have hz := HCP.out; go_simp⟩) (by assumption) ?_
          try simp only [Act.put, stA, stB, stC]
          refine wpAnyH_take (i := 12) (oi := ⟨some 58, .nilCheck (.tmp 46), 0, "chronicle.go:112", #[⟨0, .data⟩, ⟨0, .phase⟩, ⟨1, .phase⟩, ⟨2, .phase⟩, ⟨3, .phase⟩, ⟨4, .phase⟩, ⟨5, .phase⟩, ⟨6, .phase⟩, ⟨7, .phase⟩, ⟨8, .phase⟩, ⟨9, .phase⟩, ⟨10, .phase⟩, ⟨11, .phase⟩], none⟩) (v := .pointer (some ⟨p, 0, none⟩)) rfl (by kernel_rfl) (by kernel_rfl) (by kernel_rfl) (fun _ _ _ h => h) (Or.inl ⟨by rfl, fun w hSw => by go_simp⟩) (by assumption) ?_
          try simp only [Act.put, stA, stB, stC]
          refine wpAnyH_take (i := 13) (oi := ⟨some 59, .fieldAddr 82 (.tmp 58) 4, 0, "chronicle.go:112", #[⟨12, .data⟩, ⟨0, .phase⟩, ⟨1, .phase⟩, ⟨2, .phase⟩, ⟨3, .phase⟩, ⟨4, .phase⟩, ⟨5, .phase⟩, ⟨6, .phase⟩, ⟨7, .phase⟩, ⟨8, .phase⟩, ⟨9, .phase⟩, ⟨10, .phase⟩, ⟨11, .phase⟩], none⟩) (v := .pointer (some ⟨p, 6, none⟩)) rfl (by kernel_rfl) (by kernel_rfl) (by kernel_rfl) (fun _ _ _ h => h) (Or.inl ⟨by rfl, fun w hSw => by go_simp⟩) (by assumption) ?_
          try simp only [Act.put, stA, stB, stC]
          refine wpAnyH_ready (rs := [14]) (by kernel_rfl) (by simp) ?_
          refine AllReadyH.cons (o := ⟨none, .store 53 (.tmp 59) (.tmp 57), 0, "chronicle.go:112", #[⟨13, .data⟩, ⟨11, .data⟩, ⟨0, .phase⟩, ⟨1, .phase⟩, ⟨2, .phase⟩, ⟨3, .phase⟩, ⟨4, .phase⟩, ⟨5, .phase⟩, ⟨6, .phase⟩, ⟨7, .phase⟩, ⟨8, .phase⟩, ⟨9, .phase⟩, ⟨10, .phase⟩, ⟨11, .phase⟩], none⟩) rfl (fun K hK => ?_) AllReadyH.nil
          have y6 := HP6.out wd HBW.out
          have f6 := HF6.out wd HBW.out
          go_simp
          clear y6 f6
          refine hK.out _ _ (trivial) (fun hHeld => ?_)
          clear hK K
          try simp only [Act.put, stA, stB, stC]
          skip
          refine wpAnyH_done (by kernel_rfl) ?_ _
          try unfold NoPanic
          obtain ⟨C6, K6, R6⟩ := HEND.out wd HBW.out
          generalize wd.setCell ⟨p, 6, none⟩ (.slice (some ⟨g, off, none⟩) nv cap) = w6 at *
          have c80 := undo_any w6 T4 p q (m3.append (vName c.nextNo) (pack k bs)) c e1 R6 C6 HQ.out.1 HQ.out.2.1 HQ.out.2.2.1 (by have := HD3.out.1; omega) (by have := HD3.out.2.1; omega) HD3.out.2.2
          go_wp2_with (go_at_call 80; (refine c80.mono ?_); rintro e w7 ⟨T7, rfl, R7, X7⟩; have H7 := Lib.hid (And.intro R7 X7); clear R7 X7 c80)
          go_ret
          exact HFIN.out w7 T7 _ rfl H7.out.1 (C6.keep (kp_ext H7.out.2)) (K6.trans (kq_kp (kp_ext H7.out.2)))
        · have y6 := HP6.out wd HBW.out
          go_simp
          clear y6
          refine hK.out _ _ (hHeld) (fun hHeld => ?_)
          clear hK K
          try simp only [Act.put, stA, stB, stC]
          refine wpAnyH_take (i := 9) (oi := ⟨some 55, .call ⟨.builtin .len, #[.tmp 54], #[53]⟩, 3, "chronicle.go:112", #[⟨8, .data⟩], none⟩) (v := .int .i64 ((nv + 1 : Nat) : Int)) rfl (by kernel_rfl) (by kernel_rfl) (by kernel_rfl) (fun _ _ _ h => h) (Or.inl ⟨by rfl, fun w hSw => by go_simp⟩) (by assumption) ?_
          try simp only [Act.put, stA, stB, stC]
          refine wpAnyH_take (i := 10) (oi := ⟨some 56, .binOp .sub 3 (.tmp 55) (.const (.int .i64 1)) 3, 3, "chronicle.go:112", #[⟨9, .data⟩], none⟩) (v := .int .i64 (nv : Int)) rfl (by kernel_rfl) (by kernel_rfl) (by kernel_rfl) (fun _ _ _ h => h) (Or.inl ⟨by rfl, fun w hSw => by have hz := HWR.out; go_simp⟩) (by assumption) ?_
          try simp only [Act.put, stA, stB, stC]
          refine wpAnyH_ready (rs := [4]) (by kernel_rfl) (by simp) ?_
          refine AllReadyH.cons (o := ⟨some 50, .load 53 (.tmp 49), 53, "chronicle.go:112", #[⟨3, .data⟩], none⟩) rfl (fun K hK => ?_) AllReadyH.nil
          have y6 := HP6.out wd HBW.out
          go_simp
          clear y6
          refine hK.out _ _ (hHeld) (fun hHeld => ?_)
          clear hK K
          try simp only [Act.put, stA, stB, stC]
          skip
          refine wpAnyH_take (i := 11) (oi := ⟨some 57, .slice 53 (.tmp 50) none (some (.tmp 56)) none, 53, "chronicle.go:112", #[⟨4, .data⟩, ⟨10, .data⟩], none⟩) (v := .slice (some ⟨g, off, none⟩) nv cap) rfl (by kernel_rfl) (by kernel_rfl) (by kernel_rfl) (fun _ _ _ h => h) (Or.inl ⟨by rfl, fun w hSw => by have hz := HCP.out; go_simp⟩) (by assumption) ?_
          try simp only [Act.put, stA, stB, stC]
          refine wpAnyH_take (i := 12) (oi := ⟨some 58, .nilCheck (.tmp 46), 0, "chronicle.go:112", #[⟨0, .data⟩, ⟨0, .phase⟩, ⟨1, .phase⟩, ⟨2, .phase⟩, ⟨3, .phase⟩, ⟨4, .phase⟩, ⟨5, .phase⟩, ⟨6, .phase⟩, ⟨7, .phase⟩, ⟨8, .phase⟩, ⟨9, .phase⟩, ⟨10, .phase⟩, ⟨11, .phase⟩], none⟩) (v := .pointer (some ⟨p, 0, none⟩)) rfl (by kernel_rfl) (by kernel_rfl) (by kernel_rfl) (fun _ _ _ h => h) (Or.inl ⟨by rfl, fun w hSw => by go_simp⟩) (by assumption) ?_
          try simp only [Act.put, stA, stB, stC]
          refine wpAnyH_take (i := 13) (oi := ⟨some 59, .fieldAddr 82 (.tmp 58) 4, 0, "chronicle.go:112", #[⟨12, .data⟩, ⟨0, .phase⟩, ⟨1, .phase⟩, ⟨2, .phase⟩, ⟨3, .phase⟩, ⟨4, .phase⟩, ⟨5, .phase⟩, ⟨6, .phase⟩, ⟨7, .phase⟩, ⟨8, .phase⟩, ⟨9, .phase⟩, ⟨10, .phase⟩, ⟨11, .phase⟩], none⟩) (v := .pointer (some ⟨p, 6, none⟩)) rfl (by kernel_rfl) (by kernel_rfl) (by kernel_rfl) (fun _ _ _ h => h) (Or.inl ⟨by rfl, fun w hSw => by go_simp⟩) (by assumption) ?_
          try simp only [Act.put, stA, stB, stC]
          refine wpAnyH_ready (rs := [14]) (by kernel_rfl) (by simp) ?_
          refine AllReadyH.cons (o := ⟨none, .store 53 (.tmp 59) (.tmp 57), 0, "chronicle.go:112", #[⟨13, .data⟩, ⟨11, .data⟩, ⟨0, .phase⟩, ⟨1, .phase⟩, ⟨2, .phase⟩, ⟨3, .phase⟩, ⟨4, .phase⟩, ⟨5, .phase⟩, ⟨6, .phase⟩, ⟨7, .phase⟩, ⟨8, .phase⟩, ⟨9, .phase⟩, ⟨10, .phase⟩, ⟨11, .phase⟩], none⟩) rfl (fun K hK => ?_) AllReadyH.nil
          have y6 := HP6.out wd HBW.out
          have f6 := HF6.out wd HBW.out
          go_simp
          clear y6 f6
          refine hK.out _ _ (trivial) (fun hHeld => ?_)
          clear hK K
          try simp only [Act.put, stA, stB, stC]
          skip
          refine wpAnyH_done (by kernel_rfl) ?_ _
          try unfold NoPanic
          obtain ⟨C6, K6, R6⟩ := HEND.out wd HBW.out
          generalize wd.setCell ⟨p, 6, none⟩ (.slice (some ⟨g, off, none⟩) nv cap) = w6 at *
          have c80 := undo_any w6 T4 p q (m3.append (vName c.nextNo) (pack k bs)) c e1 R6 C6 HQ.out.1 HQ.out.2.1 HQ.out.2.2.1 (by have := HD3.out.1; omega) (by have := HD3.out.2.1; omega) HD3.out.2.2
          go_wp2_with (go_at_call 80; (refine c80.mono ?_); rintro e w7 ⟨T7, rfl, R7, X7⟩; have H7 := Lib.hid (And.intro R7 X7); clear R7 X7 c80)
          go_ret
          exact HFIN.out w7 T7 _ rfl H7.out.1 (C6.keep (kp_ext H7.out.2)) (K6.trans (kq_kp (kp_ext H7.out.2)))
    · have h0' : ¬ (en : Int) = 0 := by omega
      have HC0 := Lib.hid h0
      clear h0
      go_wp2
      go_ret
      have h3 := H3.out.1
      refine ⟨en, m3, c3, T3, rfl, Or.inr ⟨HNO.out, ?_⟩, H3.out.2.1, H3.out.2.2.1, (kq_kp (kp_below HB1.out T)).trans H3.out.2.2.2⟩
      rcases h3 with ⟨h, e, e2, e3⟩ | ⟨h, hb⟩
      · exact Or.inl ⟨h, e, e2, e3⟩
      · exact Or.inr ⟨h, en, m3, c3, hb, Or.inl ⟨HC0.out, rfl, rfl, bg_ne hb HC0.out⟩⟩
  · have hnp : 0 < c.vols.length := List.length_pos_iff.2 h0
    obtain ⟨g, off, cap, lv, gl, rfl, rfl, hle, VA⟩ := hc.vs.at (c.vols.length - 1) (by omega)
    have hla : ∀ y, Below w.heap.size w y → Calls Tryz.prog 49 #[.pointer (some ⟨p, 0, none⟩)] y fun e w' => e = .returned (.pointer (some ⟨g, off + (c.vols.length - 1) * 4, none⟩)) ∧ Below y.heap.size y w' := fun y hy => last_any y T p q c bA bc g off cap (some g) (hc.keep (kp_below hy T)) hnp hs.n
    obtain ⟨l, d, hld⟩ : ∃ l d, c.vols = l ++ [d] := ⟨c.vols.dropLast, c.vols.getLast h0, (List.dropLast_concat_getLast h0).symm⟩
    have hdl : c.vols[c.vols.length - 1]'(by omega) = d := by
      have e := getLast_at c.vols hnp
      have e2 : c.vols.getLast? = some d := by rw [hld]; simp
      exact Option.some.inj (e.symm.trans e2)
    rw [hdl] at VA
    obtain ⟨o9, ho9⟩ : ∃ o, o = off + (c.vols.length - 1) * 4 := ⟨_, rfl⟩
    obtain ⟨nv, hnv9⟩ : ∃ n, n = c.vols.length := ⟨_, rfl⟩
    rw [← ho9] at hla VA
    rw [← hnv9] at hr hnp
    obtain ⟨mo, hmo⟩ : ∃ n, n = c.most := ⟨_, rfl⟩
    obtain ⟨z, hz⟩ : ∃ n, n = d.size := ⟨_, rfl⟩
    rw [← hmo] at hr
    have k3 := VA.k3
    rw [← hz] at k3
    have lg := block_lt_of_cell (a := ⟨g, o9 + 3, none⟩) k3
    have HC : Hid (∀ y, Below w.heap.size w y → y.cell? ⟨p, 6, none⟩ = some (.slice (some ⟨g, off, none⟩) nv cap) ∧ y.cell? ⟨p, 1, none⟩ = some (.int .i64 (mo : Int)) ∧ y.cell? ⟨g, o9 + 3, none⟩ = some (.int .i64 (z : Int))) := fun y hy =>
      ⟨(row8 ((hrow y hy).trans hr)).2.2.2.2.2.2.1, (row8 ((hrow y hy).trans hr)).2.1, (World.cell?_of_block (a := ⟨g, o9 + 3, none⟩) (hy.block g lg)).trans k3⟩
    have HLA := Lib.hid hla
    have HN0 : Hid (0 < nv) := hnp
    have HLD := Lib.hid hld
    have hdd := hs.v d (by rw [hld]; simp)
    by_cases hlt : d.size < c.most
    · have HLT : Hid (z < mo) := by show z < mo; omega
      have c83 : ∀ y, Below w.heap.size w y → Calls Tryz.prog 83 #[.pointer (some ⟨p, 0, none⟩), .int .u8 (k.toNat : Int), .slice A n cp] y fun e w' => ∃ en m' c' T', e = .returned (.int .i64 ((en : Nat) : Int)) ∧ AdM c m k bs en m' c' ∧ Rep w' T' q m' ∧ CAt lo w' T' p q c' ∧ Kq lo w T w' T' := fun y hy => by
        have P1 := hP.below hy
        refine (atl_any y T p q m c (R.below hy) (h.keep (kp_below hy T)) hs hv (by omega) hroom l d hld k A n cp bs hn P1.rdn P1.1 hbl).mono ?_
        rintro e w' ⟨T', rfl, R', C', K'⟩
        exact ⟨_, _, _, T', rfl, Or.inl ⟨l, d, hld, hlt, rfl, rfl, rfl⟩, R', C', (kq_kp (kp_below hy T)).trans K'⟩
      have HC83 := Lib.hid c83
      clear hs hB hv hd hms hroom hno hnx hnv R h hP hn hbl hc hr hrow h0 hnp hla hld hdl VA ho9 hnv9 hmo hz k3 lg hdd hlt c83 hle
      go_enter Tryz.func51, Tryz.ntmps51
      go_upto_region 1 with (fail)
      refine wp_region_noPanic ?_
      refine wp_region_held_drew (S := fun y : World => y.cell? ⟨p, 6, none⟩ = some (.slice (some ⟨g, off, none⟩) nv cap) ∧ y.cell? ⟨p, 1, none⟩ = some (.int .i64 (mo : Int)) ∧ y.cell? ⟨g, o9 + 3, none⟩ = some (.int .i64 (z : Int))) (by kernel_rfl) (HC.out w.drew HBW.out) (fun hHeld => ?_)
      generalize w.drew = wd at *
      refine wpAnyH_take (i := 0) (oi := ⟨some 9, .move (.tmp 0), 26, "chronicle.go:104", #[], none⟩) (v := .pointer (some ⟨p, 0, none⟩)) rfl (by kernel_rfl) (by kernel_rfl) (by kernel_rfl) (fun _ _ _ h => h) (Or.inl ⟨by rfl, fun w hSw => by go_simp⟩) (by assumption) ?_
      try simp only [Act.put, stA, stB, stC]
      refine wpAnyH_take (i := 1) (oi := ⟨some 10, .nilCheck (.tmp 9), 0, "chronicle.go:104", #[⟨0, .data⟩], none⟩) (v := .pointer (some ⟨p, 0, none⟩)) rfl (by kernel_rfl) (by kernel_rfl) (by kernel_rfl) (fun _ _ _ h => h) (Or.inl ⟨by rfl, fun w hSw => by go_simp⟩) (by assumption) ?_
      try simp only [Act.put, stA, stB, stC]
      refine wpAnyH_take (i := 2) (oi := ⟨some 11, .fieldAddr 82 (.tmp 10) 4, 0, "chronicle.go:104", #[⟨1, .data⟩], none⟩) (v := .pointer (some ⟨p, 6, none⟩)) rfl (by kernel_rfl) (by kernel_rfl) (by kernel_rfl) (fun _ _ _ h => h) (Or.inl ⟨by rfl, fun w hSw => by go_simp⟩) (by assumption) ?_
      try simp only [Act.put, stA, stB, stC]
      refine wpAnyH_take (i := 3) (oi := ⟨some 12, .load 53 (.tmp 11), 53, "chronicle.go:104", #[⟨2, .data⟩], none⟩) (v := .slice (some ⟨g, off, none⟩) nv cap) rfl (by kernel_rfl) (by kernel_rfl) (by kernel_rfl) (fun _ _ _ h => h) (Or.inl ⟨by rfl, fun w hSw => by obtain ⟨z0, z1, z2⟩ := hSw; go_simp⟩) (by assumption) ?_
      try simp only [Act.put, stA, stB, stC]
      refine wpAnyH_take (i := 4) (oi := ⟨some 13, .call ⟨.builtin .len, #[.tmp 12], #[53]⟩, 3, "chronicle.go:104", #[⟨3, .data⟩], none⟩) (v := .int .i64 (nv : Int)) rfl (by kernel_rfl) (by kernel_rfl) (by kernel_rfl) (fun _ _ _ h => h) (Or.inl ⟨by rfl, fun w hSw => by go_simp⟩) (by assumption) ?_
      try simp only [Act.put, stA, stB, stC]
      refine wpAnyH_take (i := 5) (oi := ⟨some 14, .binOp .gtr 3 (.tmp 13) (.const (.int .i64 0)) 3, 4, "chronicle.go:104", #[⟨4, .data⟩], none⟩) (v := .bool true) rfl (by kernel_rfl) (by kernel_rfl) (by kernel_rfl) (fun _ _ _ h => h) (Or.inl ⟨by rfl, fun w hSw => by have hn0 := HN0.out; go_simp⟩) (by assumption) ?_
      try simp only [Act.put, stA, stB, stC]
      refine wpAnyH_take (i := 6) (oi := ⟨some 15, .move (.tmp 14), 4, "chronicle.go:104", #[⟨5, .data⟩], none⟩) (v := .bool true) rfl (by kernel_rfl) (by kernel_rfl) (by kernel_rfl) (fun _ _ _ h => h) (Or.inl ⟨by rfl, fun w hSw => by go_simp⟩) (by assumption) ?_
      try simp only [Act.put, stA, stB, stC]
      refine wpAnyH_take (i := 7) (oi := ⟨some 16, .move (.tmp 0), 26, "chronicle.go:104", #[⟨6, .guard⟩], some (6, true)⟩) (v := .pointer (some ⟨p, 0, none⟩)) rfl (by kernel_rfl) (by kernel_rfl) (by kernel_rfl) (fun _ _ _ h => h) (Or.inl ⟨by rfl, fun w hSw => by go_simp⟩) (by assumption) ?_
      try simp only [Act.put, stA, stB, stC]
      refine wpAnyH_take (i := 12) (oi := ⟨some 21, .move (.tmp 0), 26, "chronicle.go:104", #[⟨6, .guard⟩], some (6, true)⟩) (v := .pointer (some ⟨p, 0, none⟩)) rfl (by kernel_rfl) (by kernel_rfl) (by kernel_rfl) (fun _ _ _ h => h) (Or.inl ⟨by rfl, fun w hSw => by go_simp⟩) (by assumption) ?_
      try simp only [Act.put, stA, stB, stC]
      refine wpAnyH_take (i := 13) (oi := ⟨some 22, .nilCheck (.tmp 21), 0, "chronicle.go:104", #[⟨12, .data⟩, ⟨6, .guard⟩], some (6, true)⟩) (v := .pointer (some ⟨p, 0, none⟩)) rfl (by kernel_rfl) (by kernel_rfl) (by kernel_rfl) (fun _ _ _ h => h) (Or.inl ⟨by rfl, fun w hSw => by go_simp⟩) (by assumption) ?_
      try simp only [Act.put, stA, stB, stC]
      refine wpAnyH_take (i := 14) (oi := ⟨some 23, .fieldAddr 82 (.tmp 22) 1, 0, "chronicle.go:104", #[⟨13, .data⟩, ⟨6, .guard⟩], some (6, true)⟩) (v := .pointer (some ⟨p, 1, none⟩)) rfl (by kernel_rfl) (by kernel_rfl) (by kernel_rfl) (fun _ _ _ h => h) (Or.inl ⟨by rfl, fun w hSw => by go_simp⟩) (by assumption) ?_
      try simp only [Act.put, stA, stB, stC]
      refine wpAnyH_take (i := 15) (oi := ⟨some 24, .load 3 (.tmp 23), 3, "chronicle.go:104", #[⟨14, .data⟩, ⟨6, .guard⟩], some (6, true)⟩) (v := .int .i64 (mo : Int)) rfl (by kernel_rfl) (by kernel_rfl) (by kernel_rfl) (fun _ _ _ h => h) (Or.inl ⟨by rfl, fun w hSw => by obtain ⟨z0, z1, z2⟩ := hSw; go_simp⟩) (by assumption) ?_
      try simp only [Act.put, stA, stB, stC]
      refine wpAnyH_ready (rs := [8]) (by kernel_rfl) (by simp) ?_
      refine AllReadyH.cons (o := ⟨some 17, .call ⟨.value (.func 49), #[.tmp 16], #[26]⟩, 89, "chronicle.go:104", #[⟨7, .data⟩, ⟨6, .chain⟩, ⟨6, .guard⟩], some (6, true)⟩) rfl (fun K hK => ?_) AllReadyH.nil
      go_simp
      refine (HLA.out wd HBW.out).mono ?_
      rintro e wd ⟨rfl, B2⟩
      have BW := HBW.out.trans (B2.mono HBW.out.size)
      have hq := HC.out _ BW
      clear HBW
      have HBW := Lib.hid BW
      clear BW B2
      refine hK.out _ _ (hq) (fun hHeld => ?_)
      clear hK K
      try simp only [Act.put, stA, stB, stC]
      clear hq
      refine wpAnyH_take (i := 9) (oi := ⟨some 18, .nilCheck (.tmp 17), 0, "chronicle.go:104", #[⟨8, .data⟩, ⟨6, .guard⟩], some (6, true)⟩) (v := .pointer (some ⟨g, o9, none⟩)) rfl (by kernel_rfl) (by kernel_rfl) (by kernel_rfl) (fun _ _ _ h => h) (Or.inl ⟨by rfl, fun w hSw => by go_simp⟩) (by assumption) ?_
      try simp only [Act.put, stA, stB, stC]
      refine wpAnyH_take (i := 10) (oi := ⟨some 19, .fieldAddr 60 (.tmp 18) 3, 0, "chronicle.go:104", #[⟨9, .data⟩, ⟨6, .guard⟩], some (6, true)⟩) (v := .pointer (some ⟨g, o9 + 3, none⟩)) rfl (by kernel_rfl) (by kernel_rfl) (by kernel_rfl) (fun _ _ _ h => h) (Or.inl ⟨by rfl, fun w hSw => by go_simp⟩) (by assumption) ?_
      try simp only [Act.put, stA, stB, stC]
      refine wpAnyH_take (i := 11) (oi := ⟨some 20, .load 3 (.tmp 19), 3, "chronicle.go:104", #[⟨10, .data⟩, ⟨6, .guard⟩], some (6, true)⟩) (v := .int .i64 (z : Int)) rfl (by kernel_rfl) (by kernel_rfl) (by kernel_rfl) (fun _ _ _ h => h) (Or.inl ⟨by rfl, fun w hSw => by obtain ⟨z0, z1, z2⟩ := hSw; go_simp⟩) (by assumption) ?_
      try simp only [Act.put, stA, stB, stC]
      refine wpAnyH_take (i := 16) (oi := ⟨some 25, .binOp .lss 3 (.tmp 20) (.tmp 24) 3, 4, "chronicle.go:104", #[⟨11, .data⟩, ⟨15, .data⟩, ⟨6, .guard⟩], some (6, true)⟩) (v := .bool true) rfl (by kernel_rfl) (by kernel_rfl) (by kernel_rfl) (fun _ _ _ h => h) (Or.inl ⟨by rfl, fun w hSw => by have hlt := HLT.out; go_simp⟩) (by assumption) ?_
      try simp only [Act.put, stA, stB, stC]
      refine wpAnyH_take (i := 17) (oi := ⟨some 26, .pick (.tmp 15) (.tmp 25) (.const (.bool false)), 4, "chronicle.go:104", #[⟨6, .data⟩, ⟨16, .data⟩], none⟩) (v := .bool true) rfl (by kernel_rfl) (by kernel_rfl) (by kernel_rfl) (fun _ _ _ h => h) (Or.inl ⟨by rfl, fun w hSw => by go_simp⟩) (by assumption) ?_
      try simp only [Act.put, stA, stB, stC]
      refine wpAnyH_done (by kernel_rfl) ?_ _
      try unfold NoPanic
      go_wp2_with (go_at_call 83; (refine (HC83.out wd HBW.out).mono ?_); rintro e w2 ⟨en, m2, c2, T2, rfl, hx⟩; have H2 := Lib.hid hx; clear hx)
      go_ret
      exact ⟨en, m2, c2, T2, rfl, H2.out⟩
    · have HLT : Hid (mo ≤ z) := by show mo ≤ z; omega
      have HNO : Hid (∀ l d, c.vols = l ++ [d] → ¬ d.size < c.most) := fun l' d' e => by
        have e2 := hld.symm.trans e
        have e3 := (List.append_inj' e2 rfl).2
        injection e3 with e3
        rw [← e3]
        exact hlt
      clear hs hB hv hd hms hroom hno hnx hnv R h hP hn hbl hc hr hrow h0 hnp hla hld hdl VA ho9 hnv9 hmo hz k3 lg hdd hlt hle
      go_enter Tryz.func51, Tryz.ntmps51
      go_upto_region 1 with (fail)
      refine wp_region_noPanic ?_
      refine wp_region_held_drew (S := fun y : World => y.cell? ⟨p, 6, none⟩ = some (.slice (some ⟨g, off, none⟩) nv cap) ∧ y.cell? ⟨p, 1, none⟩ = some (.int .i64 (mo : Int)) ∧ y.cell? ⟨g, o9 + 3, none⟩ = some (.int .i64 (z : Int))) (by kernel_rfl) (HC.out w.drew HBW.out) (fun hHeld => ?_)
      generalize w.drew = wd at *
      refine wpAnyH_take (i := 0) (oi := ⟨some 9, .move (.tmp 0), 26, "chronicle.go:104", #[], none⟩) (v := .pointer (some ⟨p, 0, none⟩)) rfl (by kernel_rfl) (by kernel_rfl) (by kernel_rfl) (fun _ _ _ h => h) (Or.inl ⟨by rfl, fun w hSw => by go_simp⟩) (by assumption) ?_
      try simp only [Act.put, stA, stB, stC]
      refine wpAnyH_take (i := 1) (oi := ⟨some 10, .nilCheck (.tmp 9), 0, "chronicle.go:104", #[⟨0, .data⟩], none⟩) (v := .pointer (some ⟨p, 0, none⟩)) rfl (by kernel_rfl) (by kernel_rfl) (by kernel_rfl) (fun _ _ _ h => h) (Or.inl ⟨by rfl, fun w hSw => by go_simp⟩) (by assumption) ?_
      try simp only [Act.put, stA, stB, stC]
      refine wpAnyH_take (i := 2) (oi := ⟨some 11, .fieldAddr 82 (.tmp 10) 4, 0, "chronicle.go:104", #[⟨1, .data⟩], none⟩) (v := .pointer (some ⟨p, 6, none⟩)) rfl (by kernel_rfl) (by kernel_rfl) (by kernel_rfl) (fun _ _ _ h => h) (Or.inl ⟨by rfl, fun w hSw => by go_simp⟩) (by assumption) ?_
      try simp only [Act.put, stA, stB, stC]
      refine wpAnyH_take (i := 3) (oi := ⟨some 12, .load 53 (.tmp 11), 53, "chronicle.go:104", #[⟨2, .data⟩], none⟩) (v := .slice (some ⟨g, off, none⟩) nv cap) rfl (by kernel_rfl) (by kernel_rfl) (by kernel_rfl) (fun _ _ _ h => h) (Or.inl ⟨by rfl, fun w hSw => by obtain ⟨z0, z1, z2⟩ := hSw; go_simp⟩) (by assumption) ?_
      try simp only [Act.put, stA, stB, stC]
      refine wpAnyH_take (i := 4) (oi := ⟨some 13, .call ⟨.builtin .len, #[.tmp 12], #[53]⟩, 3, "chronicle.go:104", #[⟨3, .data⟩], none⟩) (v := .int .i64 (nv : Int)) rfl (by kernel_rfl) (by kernel_rfl) (by kernel_rfl) (fun _ _ _ h => h) (Or.inl ⟨by rfl, fun w hSw => by go_simp⟩) (by assumption) ?_
      try simp only [Act.put, stA, stB, stC]
      refine wpAnyH_take (i := 5) (oi := ⟨some 14, .binOp .gtr 3 (.tmp 13) (.const (.int .i64 0)) 3, 4, "chronicle.go:104", #[⟨4, .data⟩], none⟩) (v := .bool true) rfl (by kernel_rfl) (by kernel_rfl) (by kernel_rfl) (fun _ _ _ h => h) (Or.inl ⟨by rfl, fun w hSw => by have hn0 := HN0.out; go_simp⟩) (by assumption) ?_
      try simp only [Act.put, stA, stB, stC]
      refine wpAnyH_take (i := 6) (oi := ⟨some 15, .move (.tmp 14), 4, "chronicle.go:104", #[⟨5, .data⟩], none⟩) (v := .bool true) rfl (by kernel_rfl) (by kernel_rfl) (by kernel_rfl) (fun _ _ _ h => h) (Or.inl ⟨by rfl, fun w hSw => by go_simp⟩) (by assumption) ?_
      try simp only [Act.put, stA, stB, stC]
      refine wpAnyH_take (i := 7) (oi := ⟨some 16, .move (.tmp 0), 26, "chronicle.go:104", #[⟨6, .guard⟩], some (6, true)⟩) (v := .pointer (some ⟨p, 0, none⟩)) rfl (by kernel_rfl) (by kernel_rfl) (by kernel_rfl) (fun _ _ _ h => h) (Or.inl ⟨by rfl, fun w hSw => by go_simp⟩) (by assumption) ?_
      try simp only [Act.put, stA, stB, stC]
      refine wpAnyH_take (i := 12) (oi := ⟨some 21, .move (.tmp 0), 26, "chronicle.go:104", #[⟨6, .guard⟩], some (6, true)⟩) (v := .pointer (some ⟨p, 0, none⟩)) rfl (by kernel_rfl) (by kernel_rfl) (by kernel_rfl) (fun _ _ _ h => h) (Or.inl ⟨by rfl, fun w hSw => by go_simp⟩) (by assumption) ?_
      try simp only [Act.put, stA, stB, stC]
      refine wpAnyH_take (i := 13) (oi := ⟨some 22, .nilCheck (.tmp 21), 0, "chronicle.go:104", #[⟨12, .data⟩, ⟨6, .guard⟩], some (6, true)⟩) (v := .pointer (some ⟨p, 0, none⟩)) rfl (by kernel_rfl) (by kernel_rfl) (by kernel_rfl) (fun _ _ _ h => h) (Or.inl ⟨by rfl, fun w hSw => by go_simp⟩) (by assumption) ?_
      try simp only [Act.put, stA, stB, stC]
      refine wpAnyH_take (i := 14) (oi := ⟨some 23, .fieldAddr 82 (.tmp 22) 1, 0, "chronicle.go:104", #[⟨13, .data⟩, ⟨6, .guard⟩], some (6, true)⟩) (v := .pointer (some ⟨p, 1, none⟩)) rfl (by kernel_rfl) (by kernel_rfl) (by kernel_rfl) (fun _ _ _ h => h) (Or.inl ⟨by rfl, fun w hSw => by go_simp⟩) (by assumption) ?_
      try simp only [Act.put, stA, stB, stC]
      refine wpAnyH_take (i := 15) (oi := ⟨some 24, .load 3 (.tmp 23), 3, "chronicle.go:104", #[⟨14, .data⟩, ⟨6, .guard⟩], some (6, true)⟩) (v := .int .i64 (mo : Int)) rfl (by kernel_rfl) (by kernel_rfl) (by kernel_rfl) (fun _ _ _ h => h) (Or.inl ⟨by rfl, fun w hSw => by obtain ⟨z0, z1, z2⟩ := hSw; go_simp⟩) (by assumption) ?_
      try simp only [Act.put, stA, stB, stC]
      refine wpAnyH_ready (rs := [8]) (by kernel_rfl) (by simp) ?_
      refine AllReadyH.cons (o := ⟨some 17, .call ⟨.value (.func 49), #[.tmp 16], #[26]⟩, 89, "chronicle.go:104", #[⟨7, .data⟩, ⟨6, .chain⟩, ⟨6, .guard⟩], some (6, true)⟩) rfl (fun K hK => ?_) AllReadyH.nil
      go_simp
      refine (HLA.out wd HBW.out).mono ?_
      rintro e wd ⟨rfl, B2⟩
      have BW := HBW.out.trans (B2.mono HBW.out.size)
      have hq := HC.out _ BW
      clear HBW
      have HBW := Lib.hid BW
      clear BW B2
      refine hK.out _ _ (hq) (fun hHeld => ?_)
      clear hK K
      try simp only [Act.put, stA, stB, stC]
      clear hq
      refine wpAnyH_take (i := 9) (oi := ⟨some 18, .nilCheck (.tmp 17), 0, "chronicle.go:104", #[⟨8, .data⟩, ⟨6, .guard⟩], some (6, true)⟩) (v := .pointer (some ⟨g, o9, none⟩)) rfl (by kernel_rfl) (by kernel_rfl) (by kernel_rfl) (fun _ _ _ h => h) (Or.inl ⟨by rfl, fun w hSw => by go_simp⟩) (by assumption) ?_
      try simp only [Act.put, stA, stB, stC]
      refine wpAnyH_take (i := 10) (oi := ⟨some 19, .fieldAddr 60 (.tmp 18) 3, 0, "chronicle.go:104", #[⟨9, .data⟩, ⟨6, .guard⟩], some (6, true)⟩) (v := .pointer (some ⟨g, o9 + 3, none⟩)) rfl (by kernel_rfl) (by kernel_rfl) (by kernel_rfl) (fun _ _ _ h => h) (Or.inl ⟨by rfl, fun w hSw => by go_simp⟩) (by assumption) ?_
      try simp only [Act.put, stA, stB, stC]
      refine wpAnyH_take (i := 11) (oi := ⟨some 20, .load 3 (.tmp 19), 3, "chronicle.go:104", #[⟨10, .data⟩, ⟨6, .guard⟩], some (6, true)⟩) (v := .int .i64 (z : Int)) rfl (by kernel_rfl) (by kernel_rfl) (by kernel_rfl) (fun _ _ _ h => h) (Or.inl ⟨by rfl, fun w hSw => by obtain ⟨z0, z1, z2⟩ := hSw; go_simp⟩) (by assumption) ?_
      try simp only [Act.put, stA, stB, stC]
      refine wpAnyH_take (i := 16) (oi := ⟨some 25, .binOp .lss 3 (.tmp 20) (.tmp 24) 3, 4, "chronicle.go:104", #[⟨11, .data⟩, ⟨15, .data⟩, ⟨6, .guard⟩], some (6, true)⟩) (v := .bool false) rfl (by kernel_rfl) (by kernel_rfl) (by kernel_rfl) (fun _ _ _ h => h) (Or.inl ⟨by rfl, fun w hSw => by have hlt := HLT.out; go_simp⟩) (by assumption) ?_
      try simp only [Act.put, stA, stB, stC]
      refine wpAnyH_take (i := 17) (oi := ⟨some 26, .pick (.tmp 15) (.tmp 25) (.const (.bool false)), 4, "chronicle.go:104", #[⟨6, .data⟩, ⟨16, .data⟩], none⟩) (v := .bool false) rfl (by kernel_rfl) (by kernel_rfl) (by kernel_rfl) (fun _ _ _ h => h) (Or.inl ⟨by rfl, fun w hSw => by go_simp⟩) (by assumption) ?_
      try simp only [Act.put, stA, stB, stC]
      refine wpAnyH_done (by kernel_rfl) ?_ _
      try unfold NoPanic
      have HB1 := HBW
      generalize wd = w1 at *
      have R1 := HR.out.1.below HB1.out
      have C1 := HR.out.2.1.keep (kp_below HB1.out T)
      have B2 : Below w1.heap.size w1 (w1.alloc (.cells #[.func (.func 23) #[.pointer (some ⟨p, 0, none⟩)] #[], .func (.func 84) #[.pointer (some ⟨p, 0, none⟩)] #[]] 39)) := (Below.refl _ _).alloc (Nat.le_refl _) _
      have N2 := heap_alloc_new w1 (.cells #[.func (.func 23) #[.pointer (some ⟨p, 0, none⟩)] #[], .func (.func 84) #[.pointer (some ⟨p, 0, none⟩)] #[]] 39)
      have al2 := al_size w1 (.cells #[.func (.func 23) #[.pointer (some ⟨p, 0, none⟩)] #[], .func (.func 84) #[.pointer (some ⟨p, 0, none⟩)] #[]] 39)
      have c41 := add_io w1 T p q m c _ rfl R1 C1 HQ.out.1 HQ.out.2.1 HQ.out.2.2.1 HQ.out.2.2.2.1 HQ.out.2.2.2.2.1 HQ.out.2.2.2.2.2.1 HQ.out.2.2.2.2.2.2.1
      clear R1 C1 B2 N2 al2
      go_upto_region 4 with (go_at_call 41; (refine c41.mono ?_); rintro e w3 ⟨en, rfl, m3, c3, T3, h3, R3, C3, K3⟩; have H3 := Lib.hid (And.intro h3 (And.intro R3 (And.intro C3 K3))); clear h3 R3 C3 K3 c41)
      by_cases h0 : en = 0
      · have h0' : (en : Int) = 0 := by omega
        obtain ⟨hsy, hbg⟩ : (syM c m).1 = 0 ∧ BgM c (syM c m).2 0 m3 c3 := by
          rcases H3.out.1 with ⟨h, e, _⟩ | ⟨h, hb⟩
          · exact absurd (e.symm.trans h0) h
          · exact ⟨h, by rw [h0] at hb; exact hb⟩
        obtain ⟨hres, hc3⟩ := bg_zero hbg
        obtain ⟨d3, r3, n3⟩ := bres_small hres (vName_le _ HQ.out.2.2.2.2.2.2.1) (k := 8991) (syM_nms HQ.out.2.2.2.2.1)
        have sm := syM_small c m
        have C3 := H3.out.2.2.1
        rw [hc3] at C3
        have P3 := (HR.out.2.2.1.below HB1.out).kq H3.out.2.2.2
        have hd4 := HQ.out.2.2.2.1
        have c83 := atl_any w3 T3 p q m3 {c with vols := c.vols ++ [newV c]} H3.out.2.1 C3 (new_small HQ.out.1 HQ.out.2.2.2.2.2.2.1 HQ.out.2.2.2.2.2.2.2.1 HQ.out.2.2.2.2.2.2.2.2.1) (new_nos HQ.out.2.2.1 HQ.out.2.2.2.2.2.2.1) (by omega) (by rw [r3, sm.2]; exact HQ.out.2.2.2.2.2.1) c.vols (newV c) rfl k A n cp bs HL.out.1 P3.rdn P3.1 HL.out.2
        have nm9 := nms_list (nms_append n3 (vName c.nextNo) (pack k bs))
        have HD3 : Hid ((m3.append (vName c.nextNo) (pack k bs)).done < 790000 ∧ (m3.append (vName c.nextNo) (pack k bs)).list.length ≤ 9000 ∧ ∀ s ∈ (m3.append (vName c.nextNo) (pack k bs)).list, s.length ≤ 1000) := ⟨by have := sm_append m3 (vName c.nextNo) (pack k bs); omega, by omega, nm9.2⟩
        have HBG := Lib.hid (And.intro hsy (And.intro hbg hc3))
        obtain ⟨e1, he1⟩ : ∃ n : Nat, n = m3.appendE (vName c.nextNo) (pack k bs) := ⟨_, rfl⟩
        have HE1 := Lib.hid he1
        have c83' : Calls Tryz.prog 83 #[.pointer (some ⟨p, 0, none⟩), .int .u8 (k.toNat : Int), .slice A n cp] w3 fun e w' => ∃ T', e = .returned (.int .i64 (e1 : Int)) ∧ Rep w' T' q (m3.append (vName c.nextNo) (pack k bs)) ∧ CAt lo w' T' p q (atlC {c with vols := c.vols ++ [newV c]} c.vols (newV c) k bs e1) ∧ Kq lo w3 T3 w' T' := by rw [he1]; exact c83
        clear c83 hsy hbg hres hc3 d3 r3 n3 sm C3 P3 hd4 nm9 h0 he1
        go_upto_region 7 with (go_at_call 83; (refine c83'.mono ?_); rintro e w5 ⟨T4, rfl, R4, C4, K4⟩; have H4 := Lib.hid (And.intro R4 (And.intro C4 K4)); clear R4 C4 K4 c83')
        have HKK := Lib.hid (((kq_kp (kp_below HB1.out T)).trans H3.out.2.2.2).trans H4.out.2.2)
        by_cases h1 : e1 = 0
        · have h1' : (e1 : Int) = 0 := by omega
          have HE0 := Lib.hid h1
          clear h1
          go_wp2
          go_ret
          exact ⟨0, _, _, T4, rfl, Or.inr ⟨HNO.out, Or.inr ⟨HBG.out.1, 0, m3, c3, HBG.out.2.1, Or.inr ⟨rfl, HBG.out.2.2, Or.inl ⟨HE1.out.symm.trans HE0.out, rfl, rfl, rfl⟩⟩⟩⟩, H4.out.1, by rw [← HE0.out]; exact H4.out.2.1, HKK.out⟩
        · have h1' : ¬ (e1 : Int) = 0 := by omega
          have HFIN : Hid (∀ w7 T7 (en9 : Nat), en9 = (undoM c.own (m3.append (vName c.nextNo) (pack k bs)) e1).1 → Rep w7 T7 q (undoM c.own (m3.append (vName c.nextNo) (pack k bs)) e1).2 → CAt lo w7 T7 p q c → Kq lo w5 T4 w7 T7 → ∃ en m' c' T', Ending.returned (.int .i64 (en9 : Int)) = .returned (.int .i64 ((en : Nat) : Int)) ∧ AdM c m k bs en m' c' ∧ Rep w7 T' q m' ∧ CAt lo w7 T' p q c' ∧ Kq lo w T w7 T') := fun w7 T7 en9 e9 r9 c9 k9 => by
            refine ⟨en9, _, c, T7, rfl, Or.inr ⟨HNO.out, Or.inr ⟨HBG.out.1, 0, m3, c3, HBG.out.2.1, Or.inr ⟨rfl, HBG.out.2.2, Or.inr ⟨by rw [← HE1.out]; exact h1, by rw [← HE1.out]; exact e9, rfl, rfl⟩⟩⟩⟩, by rw [← HE1.out]; exact r9, c9, HKK.out.trans k9⟩
          have C4 := H4.out.2.1
          rw [show atlC {c with vols := c.vols ++ [newV c]} c.vols (newV c) k bs e1 = {c with vols := c.vols ++ [newV c]} from if_neg h1] at C4
          obtain ⟨bA, bc, vv, gv, C5⟩ := C4
          obtain ⟨g, off, cap, rfl, rfl, hcap, hPi⟩ := C5.initial
          have r5 := C5.row
          unfold cC at r5
          have lnv : (c.vols ++ [newV c]).length = c.vols.length + 1 := by simp
          obtain ⟨nv, hnv⟩ : ∃ n, n = c.vols.length := ⟨_, rfl⟩
          have HWR : Hid (IntKind.i64.wrap (nv : Int) = (nv : Int)) := by show _ = _; rw [IntKind.wrap_i64]; have := HQ.out.1.n; omega
          have HCP : Hid (nv ≤ cap) := by show nv ≤ cap; omega
          rw [← hnv] at lnv hPi
          have hrow : ∀ y, Below w5.heap.size w5 y → y.heap[p]? = w5.heap[p]? := fun y hy => hy.block p (Array.getElem?_eq_some_iff.1 r5).1
          have HP6 : Hid (∀ y, Below w5.heap.size w5 y → y.cell? ⟨p, 6, none⟩ = some (.slice (some ⟨g, off, none⟩) (nv + 1) cap)) := fun y hy => by
            have e := (row8 ((hrow y hy).trans r5)).2.2.2.2.2.2.1
            rw [e, hnv]
          have HF6 : Hid (∀ y, Below w5.heap.size w5 y → y.frozen? ⟨p, 6, none⟩ = false) := fun y hy => frozen_of_row _ _ _ _ _ ((hrow y hy).trans r5)
          have HEND : Hid (∀ y, Below w5.heap.size w5 y → CAt lo (y.setCell ⟨p, 6, none⟩ (.slice (some ⟨g, off, none⟩) nv cap)) T4 p q c ∧ Kq lo w5 T4 (y.setCell ⟨p, 6, none⟩ (.slice (some ⟨g, off, none⟩) nv cap)) T4 ∧ Rep (y.setCell ⟨p, 6, none⟩ (.slice (some ⟨g, off, none⟩) nv cap)) T4 q (m3.append (vName c.nextNo) (pack k bs))) := fun y hy => by
            have Cy := C5.keep (kp_below hy T4)
            have Ry := H4.out.1.below hy
            have G := Shf.grown_set y p 6 (.slice (some ⟨g, off, none⟩) nv cap)
            exact ⟨⟨bA, bc, _, some g, Cy.set 6 _ c bA bc _ (some g) rfl Cy.ba (hPi y hy)⟩, (kq_kp (kp_below hy T4)).trans (kq_set Cy.row Cy.lp _ _), Ry.far (P := fun b => b = p) ⟨G.os, G.tape, G.output, G.size, fun b hlt hne => G.block b hlt (fun e => hne (by injection e))⟩ (fun b hT9 hP => hT9 (by rw [hP]; exact Cy.tp))⟩
          clear C5 r5 hrow hPi lnv hcap h1 hnv
          go_upto_region 8 with (fail)
          have HBW := Lib.hid ((Below.refl w5.heap.size w5).drew)
          refine wp_region_noPanic ?_
          refine wp_region_held_drew (S := fun y : World => True) (by kernel_rfl) trivial (fun hHeld => ?_)
          generalize w5.drew = wd at *
          refine wpAnyH_take (i := 0) (oi := ⟨some 46, .move (.tmp 0), 26, "chronicle.go:112", #[], none⟩) (v := .pointer (some ⟨p, 0, none⟩)) rfl (by kernel_rfl) (by kernel_rfl) (by kernel_rfl) (fun _ _ _ h => h) (Or.inl ⟨by rfl, fun w hSw => by go_simp⟩) (by assumption) ?_
          try simp only [Act.put, stA, stB, stC]
          refine wpAnyH_take (i := 1) (oi := ⟨some 47, .move (.tmp 0), 26, "chronicle.go:112", #[], none⟩) (v := .pointer (some ⟨p, 0, none⟩)) rfl (by kernel_rfl) (by kernel_rfl) (by kernel_rfl) (fun _ _ _ h => h) (Or.inl ⟨by rfl, fun w hSw => by go_simp⟩) (by assumption) ?_
          try simp only [Act.put, stA, stB, stC]
          refine wpAnyH_take (i := 2) (oi := ⟨some 48, .nilCheck (.tmp 47), 0, "chronicle.go:112", #[⟨1, .data⟩], none⟩) (v := .pointer (some ⟨p, 0, none⟩)) rfl (by kernel_rfl) (by kernel_rfl) (by kernel_rfl) (fun _ _ _ h => h) (Or.inl ⟨by rfl, fun w hSw => by go_simp⟩) (by assumption) ?_
          try simp only [Act.put, stA, stB, stC]
          refine wpAnyH_take (i := 3) (oi := ⟨some 49, .fieldAddr 82 (.tmp 48) 4, 0, "chronicle.go:112", #[⟨2, .data⟩], none⟩) (v := .pointer (some ⟨p, 6, none⟩)) rfl (by kernel_rfl) (by kernel_rfl) (by kernel_rfl) (fun _ _ _ h => h) (Or.inl ⟨by rfl, fun w hSw => by go_simp⟩) (by assumption) ?_
          try simp only [Act.put, stA, stB, stC]
          refine wpAnyH_take (i := 5) (oi := ⟨some 51, .move (.tmp 0), 26, "chronicle.go:112", #[], none⟩) (v := .pointer (some ⟨p, 0, none⟩)) rfl (by kernel_rfl) (by kernel_rfl) (by kernel_rfl) (fun _ _ _ h => h) (Or.inl ⟨by rfl, fun w hSw => by go_simp⟩) (by assumption) ?_
          try simp only [Act.put, stA, stB, stC]
          refine wpAnyH_take (i := 6) (oi := ⟨some 52, .nilCheck (.tmp 51), 0, "chronicle.go:112", #[⟨5, .data⟩], none⟩) (v := .pointer (some ⟨p, 0, none⟩)) rfl (by kernel_rfl) (by kernel_rfl) (by kernel_rfl) (fun _ _ _ h => h) (Or.inl ⟨by rfl, fun w hSw => by go_simp⟩) (by assumption) ?_
          try simp only [Act.put, stA, stB, stC]
          refine wpAnyH_take (i := 7) (oi := ⟨some 53, .fieldAddr 82 (.tmp 52) 4, 0, "chronicle.go:112", #[⟨6, .data⟩], none⟩) (v := .pointer (some ⟨p, 6, none⟩)) rfl (by kernel_rfl) (by kernel_rfl) (by kernel_rfl) (fun _ _ _ h => h) (Or.inl ⟨by rfl, fun w hSw => by go_simp⟩) (by assumption) ?_
          try simp only [Act.put, stA, stB, stC]
          refine wpAnyH_ready (rs := [4, 8]) (by kernel_rfl) (by simp) ?_
          refine (AllReadyH.cons (o := ⟨some 50, .load 53 (.tmp 49), 53, "chronicle.go:112", #[⟨3, .data⟩], none⟩) rfl (fun K hK => ?_) (AllReadyH.cons (o := ⟨some 54, .load 53 (.tmp 53), 53, "chronicle.go:112", #[⟨7, .data⟩], none⟩) rfl (fun K hK => ?_) AllReadyH.nil))
          · have y6 := HP6.out wd HBW.out
            go_simp
            clear y6
            refine hK.out _ _ (hHeld) (fun hHeld => ?_)
            clear hK K
            try simp only [Act.put, stA, stB, stC]
            skip
            refine wpAnyH_ready (rs := [8]) (by kernel_rfl) (by simp) ?_
            refine AllReadyH.cons (o := ⟨some 54, .load 53 (.tmp 53), 53, "chronicle.go:112", #[⟨7, .data⟩], none⟩) rfl (fun K hK => ?_) AllReadyH.nil
            have y6 := HP6.out wd HBW.out
            go_simp
            clear y6
            refine hK.out _ _ (hHeld) (fun hHeld => ?_)
            clear hK K
            try simp only [Act.put, stA, stB, stC]
            refine wpAnyH_take (i := 9) (oi := ⟨some 55, .call ⟨.builtin .len, #[.tmp 54], #[53]⟩, 3, "chronicle.go:112", #[⟨8, .data⟩], none⟩) (v := .int .i64 ((nv + 1 : Nat) : Int)) rfl (by kernel_rfl) (by kernel_rfl) (by kernel_rfl) (fun _ _ _ h => h) (Or.inl ⟨by rfl, fun w hSw => by go_simp⟩) (by assumption) ?_
            try simp only [Act.put, stA, stB, stC]
            refine wpAnyH_take (i := 10) (oi := ⟨some 56, .binOp .sub 3 (.tmp 55) (.const (.int .i64 1)) 3, 3, "chronicle.go:112", #[⟨9, .data⟩], none⟩) (v := .int .i64 (nv : Int)) rfl (by kernel_rfl) (by kernel_rfl) (by kernel_rfl) (fun _ _ _ h => h) (Or.inl ⟨by rfl, fun w hSw => by have hz := HWR.out; go_simp⟩) (by assumption) ?_
            try simp only [Act.put, stA, stB, stC]
            refine wpAnyH_take (i := 11) (oi := ⟨some 57, .slice 53 (.tmp 50) none (some (.tmp 56)) none, 53, "chronicle.go:112", #[⟨4, .data⟩, ⟨10, .data⟩], none⟩) (v := .slice (some ⟨g, off, none⟩) nv cap) rfl (by kernel_rfl) (by kernel_rfl) (by kernel_rfl) (fun _ _ _ h => h) (Or.inl ⟨by rfl, fun w hSw => by have hz := HCP.out; go_simp⟩) (by assumption) ?_
            try simp only [Act.put, stA, stB, stC]
            refine wpAnyH_take (i := 12) (oi := ⟨some 58, .nilCheck (.tmp 46), 0, "chronicle.go:112", #[⟨0, .data⟩, ⟨0, .phase⟩, ⟨1, .phase⟩, ⟨2, .phase⟩, ⟨3, .phase⟩, ⟨4, .phase⟩, ⟨5, .phase⟩, ⟨6, .phase⟩, ⟨7, .phase⟩, ⟨8, .phase⟩, ⟨9, .phase⟩, ⟨10, .phase⟩, ⟨11, .phase⟩], none⟩) (v := .pointer (some ⟨p, 0, none⟩)) rfl (by kernel_rfl) (by kernel_rfl) (by kernel_rfl) (fun _ _ _ h => h) (Or.inl ⟨by rfl, fun w hSw => by go_simp⟩) (by assumption) ?_
            try simp only [Act.put, stA, stB, stC]
            refine wpAnyH_take (i := 13) (oi := ⟨some 59, .fieldAddr 82 (.tmp 58) 4, 0, "chronicle.go:112", #[⟨12, .data⟩, ⟨0, .phase⟩, ⟨1, .phase⟩, ⟨2, .phase⟩, ⟨3, .phase⟩, ⟨4, .phase⟩, ⟨5, .phase⟩, ⟨6, .phase⟩, ⟨7, .phase⟩, ⟨8, .phase⟩, ⟨9, .phase⟩, ⟨10, .phase⟩, ⟨11, .phase⟩], none⟩) (v := .pointer (some ⟨p, 6, none⟩)) rfl (by kernel_rfl) (by kernel_rfl) (by kernel_rfl) (fun _ _ _ h => h) (Or.inl ⟨by rfl, fun w hSw => by go_simp⟩) (by assumption) ?_
            try simp only [Act.put, stA, stB, stC]
            refine wpAnyH_ready (rs := [14]) (by kernel_rfl) (by simp) ?_
            refine AllReadyH.cons (o := ⟨none, .store 53 (.tmp 59) (.tmp 57), 0, "chronicle.go:112", #[⟨13, .data⟩, ⟨11, .data⟩, ⟨0, .phase⟩, ⟨1, .phase⟩, ⟨2, .phase⟩, ⟨3, .phase⟩, ⟨4, .phase⟩, ⟨5, .phase⟩, ⟨6, .phase⟩, ⟨7, .phase⟩, ⟨8, .phase⟩, ⟨9, .phase⟩, ⟨10, .phase⟩, ⟨11, .phase⟩], none⟩) rfl (fun K hK => ?_) AllReadyH.nil
            have y6 := HP6.out wd HBW.out
            have f6 := HF6.out wd HBW.out
            go_simp
            clear y6 f6
            refine hK.out _ _ (trivial) (fun hHeld => ?_)
            clear hK K
            try simp only [Act.put, stA, stB, stC]
            skip
            refine wpAnyH_done (by kernel_rfl) ?_ _
            try unfold NoPanic
            obtain ⟨C6, K6, R6⟩ := HEND.out wd HBW.out
            generalize wd.setCell ⟨p, 6, none⟩ (.slice (some ⟨g, off, none⟩) nv cap) = w6 at *
            have c80 := undo_any w6 T4 p q (m3.append (vName c.nextNo) (pack k bs)) c e1 R6 C6 HQ.out.1 HQ.out.2.1 HQ.out.2.2.1 (by have := HD3.out.1; omega) (by have := HD3.out.2.1; omega) HD3.out.2.2
            go_wp2_with (go_at_call 80; (refine c80.mono ?_); rintro e w7 ⟨T7, rfl, R7, X7⟩; have H7 := Lib.hid (And.intro R7 X7); clear R7 X7 c80)
            go_ret
            exact HFIN.out w7 T7 _ rfl H7.out.1 (C6.keep (kp_ext H7.out.2)) (K6.trans (kq_kp (kp_ext H7.out.2)))
          · have y6 := HP6.out wd HBW.out
            go_simp
            clear y6
            refine hK.out _ _ (hHeld) (fun hHeld => ?_)
            clear hK K
            try simp only [Act.put, stA, stB, stC]
            refine wpAnyH_take (i := 9) (oi := ⟨some 55, .call ⟨.builtin .len, #[.tmp 54], #[53]⟩, 3, "chronicle.go:112", #[⟨8, .data⟩], none⟩) (v := .int .i64 ((nv + 1 : Nat) : Int)) rfl (by kernel_rfl) (by kernel_rfl) (by kernel_rfl) (fun _ _ _ h => h) (Or.inl ⟨by rfl, fun w hSw => by go_simp⟩) (by assumption) ?_
            try simp only [Act.put, stA, stB, stC]
            refine wpAnyH_take (i := 10) (oi := ⟨some 56, .binOp .sub 3 (.tmp 55) (.const (.int .i64 1)) 3, 3, "chronicle.go:112", #[⟨9, .data⟩], none⟩) (v := .int .i64 (nv : Int)) rfl (by kernel_rfl) (by kernel_rfl) (by kernel_rfl) (fun _ _ _ h => h) (Or.inl ⟨by rfl, fun w hSw => by have hz := HWR.out; go_simp⟩) (by assumption) ?_
            try simp only [Act.put, stA, stB, stC]
            refine wpAnyH_ready (rs := [4]) (by kernel_rfl) (by simp) ?_
            refine AllReadyH.cons (o := ⟨some 50, .load 53 (.tmp 49), 53, "chronicle.go:112", #[⟨3, .data⟩], none⟩) rfl (fun K hK => ?_) AllReadyH.nil
            have y6 := HP6.out wd HBW.out
            go_simp
            clear y6
            refine hK.out _ _ (hHeld) (fun hHeld => ?_)
            clear hK K
            try simp only [Act.put, stA, stB, stC]
            skip
            refine wpAnyH_take (i := 11) (oi := ⟨some 57, .slice 53 (.tmp 50) none (some (.tmp 56)) none, 53, "chronicle.go:112", #[⟨4, .data⟩, ⟨10, .data⟩], none⟩) (v := .slice (some ⟨g, off, none⟩) nv cap) rfl (by kernel_rfl) (by kernel_rfl) (by kernel_rfl) (fun _ _ _ h => h) (Or.inl ⟨by rfl, fun w hSw => by have hz := HCP.out; go_simp⟩) (by assumption) ?_
            try simp only [Act.put, stA, stB, stC]
            refine wpAnyH_take (i := 12) (oi := ⟨some 58, .nilCheck (.tmp 46), 0, "chronicle.go:112", #[⟨0, .data⟩, ⟨0, .phase⟩, ⟨1, .phase⟩, ⟨2, .phase⟩, ⟨3, .phase⟩, ⟨4, .phase⟩, ⟨5, .phase⟩, ⟨6, .phase⟩, ⟨7, .phase⟩, ⟨8, .phase⟩, ⟨9, .phase⟩, ⟨10, .phase⟩, ⟨11, .phase⟩], none⟩) (v := .pointer (some ⟨p, 0, none⟩)) rfl (by kernel_rfl) (by kernel_rfl) (by kernel_rfl) (fun _ _ _ h => h) (Or.inl ⟨by rfl, fun w hSw => by go_simp⟩) (by assumption) ?_
            try simp only [Act.put, stA, stB, stC]
            refine wpAnyH_take (i := 13) (oi := ⟨some 59, .fieldAddr 82 (.tmp 58) 4, 0, "chronicle.go:112", #[⟨12, .data⟩, ⟨0, .phase⟩, ⟨1, .phase⟩, ⟨2, .phase⟩, ⟨3, .phase⟩, ⟨4, .phase⟩, ⟨5, .phase⟩, ⟨6, .phase⟩, ⟨7, .phase⟩, ⟨8, .phase⟩, ⟨9, .phase⟩, ⟨10, .phase⟩, ⟨11, .phase⟩], none⟩) (v := .pointer (some ⟨p, 6, none⟩)) rfl (by kernel_rfl) (by kernel_rfl) (by kernel_rfl) (fun _ _ _ h => h) (Or.inl ⟨by rfl, fun w hSw => by go_simp⟩) (by assumption) ?_
            try simp only [Act.put, stA, stB, stC]
            refine wpAnyH_ready (rs := [14]) (by kernel_rfl) (by simp) ?_
            refine AllReadyH.cons (o := ⟨none, .store 53 (.tmp 59) (.tmp 57), 0, "chronicle.go:112", #[⟨13, .data⟩, ⟨11, .data⟩, ⟨0, .phase⟩, ⟨1, .phase⟩, ⟨2, .phase⟩, ⟨3, .phase⟩, ⟨4, .phase⟩, ⟨5, .phase⟩, ⟨6, .phase⟩, ⟨7, .phase⟩, ⟨8, .phase⟩, ⟨9, .phase⟩, ⟨10, .phase⟩, ⟨11, .phase⟩], none⟩) rfl (fun K hK => ?_) AllReadyH.nil
            have y6 := HP6.out wd HBW.out
            have f6 := HF6.out wd HBW.out
            go_simp
            clear y6 f6
            refine hK.out _ _ (trivial) (fun hHeld => ?_)
            clear hK K
            try simp only [Act.put, stA, stB, stC]
            skip
            refine wpAnyH_done (by kernel_rfl) ?_ _
            try unfold NoPanic
            obtain ⟨C6, K6, R6⟩ := HEND.out wd HBW.out
            generalize wd.setCell ⟨p, 6, none⟩ (.slice (some ⟨g, off, none⟩) nv cap) = w6 at *
            have c80 := undo_any w6 T4 p q (m3.append (vName c.nextNo) (pack k bs)) c e1 R6 C6 HQ.out.1 HQ.out.2.1 HQ.out.2.2.1 (by have := HD3.out.1; omega) (by have := HD3.out.2.1; omega) HD3.out.2.2
            go_wp2_with (go_at_call 80; (refine c80.mono ?_); rintro e w7 ⟨T7, rfl, R7, X7⟩; have H7 := Lib.hid (And.intro R7 X7); clear R7 X7 c80)
            go_ret
            exact HFIN.out w7 T7 _ rfl H7.out.1 (C6.keep (kp_ext H7.out.2)) (K6.trans (kq_kp (kp_ext H7.out.2)))
      · have h0' : ¬ (en : Int) = 0 := by omega
        have HC0 := Lib.hid h0
        clear h0
        go_wp2
        go_ret
        have h3 := H3.out.1
        refine ⟨en, m3, c3, T3, rfl, Or.inr ⟨HNO.out, ?_⟩, H3.out.2.1, H3.out.2.2.1, (kq_kp (kp_below HB1.out T)).trans H3.out.2.2.2⟩
        rcases h3 with ⟨h, e, e2, e3⟩ | ⟨h, hb⟩
        · exact Or.inl ⟨h, e, e2, e3⟩
        · exact Or.inr ⟨h, en, m3, c3, hb, Or.inl ⟨HC0.out, rfl, rfl, bg_ne hb HC0.out⟩⟩
end Go.Proofs.YtdbhgkbmbbjpdaaGreatDoor.Chr
