/- Calls one behind the other: those of begin. -/
import Derived.Test.YtdbhgkbmbbjpdaaGreatDoorNm
namespace Go.Proofs.YtdbhgkbmbbjpdaaGreatDoor.Chr
open Go.ChangeShapes Go.WideShapes Go.ChangeAt Go.RowKit
open Shf (S str)
open Coin (Rd Row Own sz coin got Pur takeV endV CoinSaid)
open Frm (pack err size kind cnt body noItem itemV OneSaid)
set_option maxRecDepth 8000
set_option linter.unusedVariables false
open Shf (Tag Ext Rep M RdN act_done act_now)
abbrev BS1 (m : M) (nm : S) (m' : M) : Prop := m.createE nm = 0 ∧ ∃ b, m' = m.create nm b
abbrev BS2 (m : M) (nm bs : S) (m' : M) : Prop := ∃ m1, BS1 m nm m1 ∧ m1.appendE nm bs = 0 ∧ m' = m1.append nm bs
abbrev BS3 (m : M) (nm bs : S) (m' : M) : Prop := ∃ m1, BS2 m nm bs m1 ∧ m1.onE nm = 0 ∧ m' = m1.sync nm
abbrev BS4 (m : M) (nm bs : S) (m' : M) : Prop := ∃ m1, BS3 m nm bs m1 ∧ m1.actE = 0 ∧ m' = m1.names
abbrev BSt (m : M) (nm bs : S) : Nat → M → Prop
  | 0, m' => m' = m
  | 1, m' => BS1 m nm m'
  | 2, m' => BS2 m nm bs m'
  | 3, m' => BS3 m nm bs m'
  | _, m' => BS4 m nm bs m'
def BRes (m : M) (nm bs : S) (en : Nat) (m' : M) : Prop :=
  (en = 0 ∧ BSt m nm bs 4 m') ∨ (en ≠ 0 ∧ ((en = m.createE nm ∧ ∃ b, m' = m.create nm b) ∨ (∃ m1, BSt m nm bs 1 m1 ∧ en = m1.appendE nm bs ∧ m' = m1.append nm bs) ∨ (∃ m1, BSt m nm bs 2 m1 ∧ en = m1.onE nm ∧ m' = m1.sync nm) ∨
    (∃ m1, BSt m nm bs 3 m1 ∧ en = m1.actE ∧ m' = m1.names)))
theorem BSt_small1 {m : M} {nm bs : S} {m' : M} (h : BSt m nm bs 1 m') : m'.done ≤ m.done + 1 ∧ m'.room = m.room := by
  obtain ⟨_, b, rfl⟩ := h; exact sm_create m _ b
theorem BSt_small2 {m : M} {nm bs : S} {m' : M} (h : BSt m nm bs 2 m') : m'.done ≤ m.done + 2 ∧ m'.room = m.room := by
  obtain ⟨m1, k1, _, rfl⟩ := h
  have a := BSt_small1 (bs := bs) k1
  have c := sm_append m1 nm bs
  exact ⟨by omega, by rw [c.2, a.2]⟩
theorem BSt_small3 {m : M} {nm bs : S} {m' : M} (h : BSt m nm bs 3 m') : m'.done ≤ m.done + 3 ∧ m'.room = m.room := by
  obtain ⟨m1, k1, _, rfl⟩ := h
  have a := BSt_small2 k1
  have c := sm_sync m1 nm
  exact ⟨by omega, by rw [c.2, a.2]⟩
theorem BSt_small4 {m : M} {nm bs : S} {m' : M} (h : BSt m nm bs 4 m') : m'.done ≤ m.done + 4 ∧ m'.room = m.room := by
  obtain ⟨m1, k1, _, rfl⟩ := h
  have a := BSt_small3 k1
  have c := sm_names m1
  exact ⟨by omega, by rw [c.2, a.2]⟩
theorem BSt_small {m : M} {nm bs : S} {k : Nat} {m' : M} (h : BSt m nm bs k m') : m'.done ≤ m.done + 5 ∧ m'.room = m.room := by
  match k, h with
  | 0, h => have h : m' = m := h; subst h; exact ⟨by omega, rfl⟩
  | 1, h => have a := BSt_small1 (bs := bs) h; exact ⟨by omega, a.2⟩
  | 2, h => have a := BSt_small2 h; exact ⟨by omega, a.2⟩
  | 3, h => have a := BSt_small3 h; exact ⟨by omega, a.2⟩
  | k + 4, h => have a := BSt_small4 h; exact ⟨by omega, a.2⟩
theorem bst_nms {m : M} {nm bs : S} (hn : nm.length ≤ 1000) {n : Nat} (h : Nms m n) : ∀ {k : Nat} {m' : M}, BSt m nm bs k m' → Nms m' (n + 1) := by
  have h1 : ∀ m', BSt m nm bs 1 m' → Nms m' (n + 1) := by
    rintro m' ⟨_, b, rfl⟩; exact nms_create h _ hn b
  have h2 : ∀ m', BSt m nm bs 2 m' → Nms m' (n + 1) := by
    rintro m' ⟨m1, k1, _, rfl⟩; exact nms_append (h1 m1 k1) _ _
  have h3 : ∀ m', BSt m nm bs 3 m' → Nms m' (n + 1) := by
    rintro m' ⟨m1, k1, _, rfl⟩; exact nms_sync (h2 m1 k1) _
  intro k m' h0
  match k, h0 with
  | 0, e => have e : m' = m := e; subst e; exact h.more
  | 1, e => exact h1 m' e
  | 2, e => exact h2 m' e
  | 3, e => exact h3 m' e
  | k + 4, e =>
    obtain ⟨m1, k1, _, rfl⟩ := e
    exact nms_names (h3 m1 k1)
theorem bres_small {m : M} {nm bs : S} {en : Nat} {m' : M} (h : BRes m nm bs en m') (hn : nm.length ≤ 1000) {k : Nat} (hk : Nms m k) : m'.done ≤ m.done + 5 ∧ m'.room = m.room ∧ Nms m' (k + 2) := by
  rcases h with ⟨_, h⟩ | ⟨_, ⟨_, b, rfl⟩ | ⟨m1, k1, _, rfl⟩ | ⟨m1, k1, _, rfl⟩ | ⟨m1, k1, _, rfl⟩⟩
  · have a := BSt_small h
    exact ⟨a.1, a.2, (bst_nms hn hk h).more⟩
  · have c := sm_create m nm b
    exact ⟨by omega, c.2, (nms_create hk _ hn b).more⟩
  · have a := BSt_small1 (bs := bs) k1
    have c := sm_append m1 nm bs
    exact ⟨by omega, c.2.trans a.2, (nms_append (bst_nms (bs := bs) hn hk (k := 1) k1) _ _).more⟩
  · have a := BSt_small2 k1
    have c := sm_sync m1 nm
    exact ⟨by omega, c.2.trans a.2, (nms_sync (bst_nms hn hk (k := 2) k1) _).more⟩
  · have a := BSt_small3 k1
    have c := sm_names m1
    exact ⟨by omega, c.2.trans a.2, (nms_names (bst_nms hn hk (k := 3) k1)).more⟩
set_option maxHeartbeats 4000000 in
theorem io_begin (w : World) (T : Nat → Tag) (q : Nat) (m : M) (p xc : Nat) (R : Rep w T q m) (hd : m.done < 900000) (hxc : w.cell? ⟨xc, 0, none⟩ = some (.pointer (some ⟨p, 0, none⟩))) (txc : T xc = .none) (hp0 : w.cell? ⟨p, 0, none⟩ = some (.pointer (some ⟨q, 0, none⟩))) (tp : T p = .none) (xn : Nat) (nm : S) (hnm : nm.length ≤ 1000) (hxn : w.cell? ⟨xn, 0, none⟩ = some (.string (str nm))) (txn : T xn = .none) (xp : Nat) (A : Option Addr) (c n : Nat) (bs : S) (hn : n = bs.length) (hbs : RdN w T A bs) (hA : A = none → c = 0) (hbl0 : bs.length ≤ 1000000) (hroom : -1000000000000 ≤ m.room) (hxp : w.cell? ⟨xp, 0, none⟩ = some (.slice A n c)) (txp : T xp = .none)
    (b : Nat) (hb : w.heap[b]? = some (.cells #[.func (.func 105) #[] #[.pointer (some ⟨xc, 0, none⟩), .pointer (some ⟨xn, 0, none⟩)], .func (.func 106) #[] #[.pointer (some ⟨xc, 0, none⟩), .pointer (some ⟨xn, 0, none⟩), .pointer (some ⟨xp, 0, none⟩)], .func (.func 107) #[] #[.pointer (some ⟨xc, 0, none⟩), .pointer (some ⟨xn, 0, none⟩)], .func (.func 15) #[.pointer (some ⟨q, 0, none⟩)] #[]] 39)) (tb : T b = .none) :
    Calls Tryz.prog 41 #[.slice (some ⟨b, 0, none⟩) 4 4] w fun e w' => ∃ en m' T', e = .returned (.int .i64 ((en : Nat) : Int)) ∧ BRes m nm bs en m' ∧ Rep w' T' q m' ∧ Ext w T w' T' := by
  have hbl := (Array.getElem?_eq_some_iff.1 hb).1
  have hX : Hid (∀ wr T1, Ext w T wr T1 → wr.heap[b]? = some (.cells #[.func (.func 105) #[] #[.pointer (some ⟨xc, 0, none⟩), .pointer (some ⟨xn, 0, none⟩)], .func (.func 106) #[] #[.pointer (some ⟨xc, 0, none⟩), .pointer (some ⟨xn, 0, none⟩), .pointer (some ⟨xp, 0, none⟩)], .func (.func 107) #[] #[.pointer (some ⟨xc, 0, none⟩), .pointer (some ⟨xn, 0, none⟩)], .func (.func 15) #[.pointer (some ⟨q, 0, none⟩)] #[]] 39)) := fun wr T1 X => (X.block b hbl tb).trans hb
  have lxc := block_lt_of_cell hxc
  have lp := block_lt_of_cell hp0
  have lxn := block_lt_of_cell hxn
  have lxp := block_lt_of_cell hxp
  have HN := Lib.hid (And.intro (fun (wr : World) (T1 : Nat → Tag) (X : Ext w T wr T1) => And.intro ((World.cell?_of_block (a := ⟨xn, 0, none⟩) (X.block xn lxn txn)).trans hxn) ((X.tags xn lxn).trans txn)) hnm)
  have HP := Lib.hid (And.intro (fun (wr : World) (T1 : Nat → Tag) (X : Ext w T wr T1) => And.intro ((World.cell?_of_block (a := ⟨xp, 0, none⟩) (X.block xp lxp txp)).trans hxp) (And.intro ((X.tags xp lxp).trans txp) (hbs.ext X))) (And.intro hn (And.intro hA (And.intro hbl0 hroom))))
  have HKp := Lib.hid (And.intro (fun (wr : World) (T1 : Nat → Tag) (X : Ext w T wr T1) => And.intro ((World.cell?_of_block (a := ⟨xc, 0, none⟩) (X.block xc lxc txc)).trans hxc) (And.intro ((X.tags xc lxc).trans txc) (And.intro ((World.cell?_of_block (a := ⟨p, 0, none⟩) (X.block p lp tp)).trans hp0) ((X.tags p lp).trans tp)))) hd)
  have hS0 : Hid (∃ T1 m1, BSt m nm bs 0 m1 ∧ Rep w T1 q m1 ∧ Ext w T w T1) := ⟨T, m, rfl, R, Ext.refl w T⟩
  clear R hd hxc txc hp0 tp hb tb hbl lxc lp hnm hxn txn hn hbs hA hbl0 hroom hxp txp lxn lxp
  go_enter Tryz.func41, Tryz.ntmps41
  go_wp2
  go_loopw [8] (fun i wr => (i = .int .i64 0 ∧ Hid (∃ T1 m1, BSt m nm bs 0 m1 ∧ Rep wr T1 q m1 ∧ Ext w T wr T1)) ∨ (i = .int .i64 1 ∧ Hid (∃ T1 m1, BSt m nm bs 1 m1 ∧ Rep wr T1 q m1 ∧ Ext w T wr T1)) ∨ (i = .int .i64 2 ∧ Hid (∃ T1 m1, BSt m nm bs 2 m1 ∧ Rep wr T1 q m1 ∧ Ext w T wr T1)) ∨ (i = .int .i64 3 ∧ Hid (∃ T1 m1, BSt m nm bs 3 m1 ∧ Rep wr T1 q m1 ∧ Ext w T wr T1)) ∨ (i = .int .i64 4 ∧ Hid (∃ T1 m1, BSt m nm bs 4 m1 ∧ Rep wr T1 q m1 ∧ Ext w T wr T1))) (fun i _ => 4 - (intOf i).toNat)
  case atStart => exact Or.inl ⟨rfl, hS0⟩
  case round =>
    rcases hrel with ⟨rfl, HR⟩ | ⟨rfl, HR⟩ | ⟨rfl, HR⟩ | ⟨rfl, HR⟩ | ⟨rfl, HR⟩
    · obtain ⟨T1, m1, hst, R1, X1⟩ := HR.out
      obtain ⟨hk, hk2, hk3, hk4⟩ := HKp.out.1 wr T1 X1
      have hsm := BSt_small hst
      have hcl : wr.cell? ⟨b, 0, none⟩ = some (.func (.func 105) #[] #[.pointer (some ⟨xc, 0, none⟩), .pointer (some ⟨xn, 0, none⟩)]) := cell_of_row wr b 0 _ 39 (0, 0) (hX.out wr T1 X1)
      have c9 := cl105_any wr T1 q m1 p xc R1 (by have := HKp.out.2; omega) hk hk2 hk3 hk4 nm HN.out.2 xn (HN.out.1 wr T1 X1).1 (HN.out.1 wr T1 X1).2
      have HS := Lib.hid (And.intro hst X1)
      clear hst R1 X1 hk hk2 hk3 hk4 hsm HR hS0
      obtain ⟨co, hco⟩ : ∃ n, n = m1.createE nm := ⟨_, rfl⟩
      rw [← hco] at c9
      have HCO := Lib.hid hco
      clear hco
      by_cases h0 : co = 0
      · have h0' : (co : Int) = 0 := by omega
        have HC0 := Lib.hid h0
        clear h0
        go_wp2_with (go_at_call 105; (refine c9.mono ?_); rintro e w2 ⟨rfl, T2, b9, R2, X2⟩; have H2 := Lib.hid (And.intro R2 X2); clear R2 X2 c9)
        go_roundw
        case rel => exact Or.inr (Or.inl ⟨rfl, ⟨T2, _, ⟨(HS.out.1 : m1 = m) ▸ (HCO.out.symm.trans HC0.out), b9, (HS.out.1 : m1 = m) ▸ rfl⟩, H2.out.1, HS.out.2.trans H2.out.2⟩⟩)
        case measure => simp [intOf]
      · have h0' : ¬ (co : Int) = 0 := by omega
        have HC0 := Lib.hid h0
        clear h0
        go_wp2_with (go_at_call 105; (refine c9.mono ?_); rintro e w2 ⟨rfl, T2, b9, R2, X2⟩; have H2 := Lib.hid (And.intro R2 X2); clear R2 X2 c9)
        go_ret
        exact ⟨co, _, T2, rfl, Or.inr ⟨HC0.out, Or.inl ⟨(HS.out.1 : m1 = m) ▸ HCO.out, b9, (HS.out.1 : m1 = m) ▸ rfl⟩⟩, H2.out.1, HS.out.2.trans H2.out.2⟩
    · obtain ⟨T1, m1, hst, R1, X1⟩ := HR.out
      obtain ⟨hk, hk2, hk3, hk4⟩ := HKp.out.1 wr T1 X1
      have hsm := BSt_small hst
      have hcl : wr.cell? ⟨b, 1, none⟩ = some (.func (.func 106) #[] #[.pointer (some ⟨xc, 0, none⟩), .pointer (some ⟨xn, 0, none⟩), .pointer (some ⟨xp, 0, none⟩)]) := cell_of_row wr b 1 _ 39 (0, 0) (hX.out wr T1 X1)
      have c9 := cl106_any wr T1 q m1 p xc R1 (by have := HKp.out.2; omega) hk hk2 hk3 hk4 nm HN.out.2 A c n bs HP.out.2.1 (HP.out.1 wr T1 X1).2.2 HP.out.2.2.1 HP.out.2.2.2.1 (by rw [hsm.2]; exact HP.out.2.2.2.2) xn (HN.out.1 wr T1 X1).1 (HN.out.1 wr T1 X1).2 xp (HP.out.1 wr T1 X1).1 (HP.out.1 wr T1 X1).2.1
      have HS := Lib.hid (And.intro hst X1)
      clear hst R1 X1 hk hk2 hk3 hk4 hsm HR hS0
      obtain ⟨co, hco⟩ : ∃ n, n = m1.appendE nm bs := ⟨_, rfl⟩
      rw [← hco] at c9
      have HCO := Lib.hid hco
      clear hco
      by_cases h0 : co = 0
      · have h0' : (co : Int) = 0 := by omega
        have HC0 := Lib.hid h0
        clear h0
        go_wp2_with (go_at_call 106; (refine c9.mono ?_); rintro e w2 ⟨rfl, T2, R2, X2⟩; have H2 := Lib.hid (And.intro R2 X2); clear R2 X2 c9)
        go_roundw
        case rel => exact Or.inr (Or.inr (Or.inl ⟨rfl, ⟨T2, _, ⟨m1, HS.out.1, (HCO.out.symm.trans HC0.out), rfl⟩, H2.out.1, HS.out.2.trans H2.out.2⟩⟩))
        case measure => simp [intOf]
      · have h0' : ¬ (co : Int) = 0 := by omega
        have HC0 := Lib.hid h0
        clear h0
        go_wp2_with (go_at_call 106; (refine c9.mono ?_); rintro e w2 ⟨rfl, T2, R2, X2⟩; have H2 := Lib.hid (And.intro R2 X2); clear R2 X2 c9)
        go_ret
        exact ⟨co, _, T2, rfl, Or.inr ⟨HC0.out, Or.inr (Or.inl ⟨m1, HS.out.1, HCO.out, rfl⟩)⟩, H2.out.1, HS.out.2.trans H2.out.2⟩
    · obtain ⟨T1, m1, hst, R1, X1⟩ := HR.out
      obtain ⟨hk, hk2, hk3, hk4⟩ := HKp.out.1 wr T1 X1
      have hsm := BSt_small hst
      have hcl : wr.cell? ⟨b, 2, none⟩ = some (.func (.func 107) #[] #[.pointer (some ⟨xc, 0, none⟩), .pointer (some ⟨xn, 0, none⟩)]) := cell_of_row wr b 2 _ 39 (0, 0) (hX.out wr T1 X1)
      have c9 := cl107_any wr T1 q m1 p xc R1 (by have := HKp.out.2; omega) hk hk2 hk3 hk4 nm HN.out.2 xn (HN.out.1 wr T1 X1).1 (HN.out.1 wr T1 X1).2
      have HS := Lib.hid (And.intro hst X1)
      clear hst R1 X1 hk hk2 hk3 hk4 hsm HR hS0
      obtain ⟨co, hco⟩ : ∃ n, n = m1.onE nm := ⟨_, rfl⟩
      rw [← hco] at c9
      have HCO := Lib.hid hco
      clear hco
      by_cases h0 : co = 0
      · have h0' : (co : Int) = 0 := by omega
        have HC0 := Lib.hid h0
        clear h0
        go_wp2_with (go_at_call 107; (refine c9.mono ?_); rintro e w2 ⟨rfl, T2, R2, X2⟩; have H2 := Lib.hid (And.intro R2 X2); clear R2 X2 c9)
        go_roundw
        case rel => exact Or.inr (Or.inr (Or.inr (Or.inl ⟨rfl, ⟨T2, _, ⟨m1, HS.out.1, (HCO.out.symm.trans HC0.out), rfl⟩, H2.out.1, HS.out.2.trans H2.out.2⟩⟩)))
        case measure => simp [intOf]
      · have h0' : ¬ (co : Int) = 0 := by omega
        have HC0 := Lib.hid h0
        clear h0
        go_wp2_with (go_at_call 107; (refine c9.mono ?_); rintro e w2 ⟨rfl, T2, R2, X2⟩; have H2 := Lib.hid (And.intro R2 X2); clear R2 X2 c9)
        go_ret
        exact ⟨co, _, T2, rfl, Or.inr ⟨HC0.out, Or.inr (Or.inr (Or.inl ⟨m1, HS.out.1, HCO.out, rfl⟩))⟩, H2.out.1, HS.out.2.trans H2.out.2⟩
    · obtain ⟨T1, m1, hst, R1, X1⟩ := HR.out
      obtain ⟨hk, hk2, hk3, hk4⟩ := HKp.out.1 wr T1 X1
      have hsm := BSt_small hst
      have hcl : wr.cell? ⟨b, 3, none⟩ = some (.func (.func 15) #[.pointer (some ⟨q, 0, none⟩)] #[]) := cell_of_row wr b 3 _ 39 (0, 0) (hX.out wr T1 X1)
      have c9 := Shf.names_rep wr T1 q m1 R1 (by have := HKp.out.2; omega)
      have HS := Lib.hid (And.intro hst X1)
      clear hst R1 X1 hk hk2 hk3 hk4 hsm HR hS0
      obtain ⟨co, hco⟩ : ∃ n, n = m1.actE := ⟨_, rfl⟩
      rw [← hco] at c9
      have HCO := Lib.hid hco
      clear hco
      by_cases h0 : co = 0
      · have h0' : (co : Int) = 0 := by omega
        have HC0 := Lib.hid h0
        clear h0
        go_wp2_with (go_at_call 15; (refine c9.mono ?_); rintro e w2 ⟨rfl, T2, R2, X2⟩; have H2 := Lib.hid (And.intro R2 X2); clear R2 X2 c9)
        go_roundw
        case rel => exact Or.inr (Or.inr (Or.inr (Or.inr (⟨rfl, ⟨T2, _, ⟨m1, HS.out.1, (HCO.out.symm.trans HC0.out), rfl⟩, H2.out.1, HS.out.2.trans H2.out.2⟩⟩))))
        case measure => simp [intOf]
      · have h0' : ¬ (co : Int) = 0 := by omega
        have HC0 := Lib.hid h0
        clear h0
        go_wp2_with (go_at_call 15; (refine c9.mono ?_); rintro e w2 ⟨rfl, T2, R2, X2⟩; have H2 := Lib.hid (And.intro R2 X2); clear R2 X2 c9)
        go_ret
        exact ⟨co, _, T2, rfl, Or.inr ⟨HC0.out, Or.inr (Or.inr (Or.inr ⟨m1, HS.out.1, HCO.out, rfl⟩))⟩, H2.out.1, HS.out.2.trans H2.out.2⟩
    · obtain ⟨T1, m1, hst, R1, X1⟩ := HR.out
      have HS := Lib.hid (And.intro hst (And.intro R1 X1))
      clear hst R1 X1 HR hS0
      go_wp2
      go_ret
      exact ⟨0, m1, T1, rfl, Or.inl ⟨rfl, HS.out.1⟩, HS.out.2.1, HS.out.2.2⟩
end Go.Proofs.YtdbhgkbmbbjpdaaGreatDoor.Chr
