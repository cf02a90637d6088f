/- Calls one behind the other: those of write. -/
import Derived.Test.YtdbhgkbmbbjpdaaGreatDoorNi
namespace Go.Proofs.YtdbhgkbmbbjpdaaGreatDoor.Chr
open Go.ChangeShapes Go.WideShapes Go.ChangeAt Go.RowKit
open Shf (S str)
open Coin (Rd Row Own sz coin got Pur takeV endV CoinSaid)
open Frm (pack err size kind cnt body noItem itemV OneSaid)
set_option maxRecDepth 8000
set_option linter.unusedVariables false
open Shf (Tag Ext Rep M RdN act_done act_now)
theorem sm_act (m : M) : m.act.done ≤ m.done + 1 ∧ m.act.room = m.room := ⟨(act_done m).2.1, (act_now m).2.2.2.2.2.2⟩
theorem sm_lose (m : M) (s : S) : (m.lose s).done = m.done ∧ (m.lose s).room = m.room := by unfold Shf.M.lose; split <;> exact ⟨rfl, rfl⟩
theorem sm_create (m : M) (s : S) (b : Nat) : (m.create s b).done ≤ m.done + 1 ∧ (m.create s b).room = m.room := by
  have a := sm_act m
  unfold Shf.M.create
  split
  · exact ⟨by omega, rfl⟩
  · split
    · exact a
    · split <;> exact a
theorem sm_append (m : M) (s p : S) : (m.append s p).done ≤ m.done + 1 ∧ (m.append s p).room = m.room := by
  have a := sm_act m
  unfold Shf.M.append
  split
  · exact a
  · split <;> exact a
theorem sm_sync (m : M) (s : S) : (m.sync s).done ≤ m.done + 1 ∧ (m.sync s).room = m.room := by
  have a := sm_act m
  unfold Shf.M.sync
  split <;> exact a
theorem sm_names (m : M) : m.names.done ≤ m.done + 1 ∧ m.names.room = m.room := by
  have a := sm_act m
  unfold Shf.M.names
  split <;> exact a
theorem sm_rename (m : M) (s t : S) : (m.rename s t).done ≤ m.done + 1 ∧ (m.rename s t).room = m.room := by
  have a := sm_act m
  unfold Shf.M.rename
  split
  · exact ⟨by omega, rfl⟩
  · split
    · exact a
    · split
      · exact a
      · have l := sm_lose m.act t
        exact ⟨by show (m.act.lose _).done ≤ _; rw [l.1]; exact a.1, by show (m.act.lose _).room = _; rw [l.2]; exact a.2⟩
theorem sm_delete (m : M) (s : S) : (m.delete s).done ≤ m.done + 1 ∧ (m.delete s).room = m.room := by
  have a := sm_act m
  unfold Shf.M.delete
  split
  · exact a
  · have l := sm_lose m.act s
    exact ⟨by show (m.act.lose _).done ≤ _; rw [l.1]; exact a.1, by show (m.act.lose _).room = _; rw [l.2]; exact a.2⟩
theorem sm_cut (m : M) (s : S) (n : Int) : (m.cut s n).done ≤ m.done + 1 ∧ (m.cut s n).room = m.room := by
  have a := sm_act m
  unfold Shf.M.cut
  split
  · exact a
  · split <;> exact a
theorem rep_good0 {w : World} {T : Nat → Tag} {q : Nat} {m : M} (R : Rep w T q m) : Shf.Good m.now := by
  have h := R.2.good _ (Nat.le_refl _)
  rwa [List.take_length, ← R.2.now] at h
abbrev WS1 (m : M) (m' : M) : Prop := m.createE besN = 0 ∧ ∃ b, m' = m.create besN b ∧ Shf.Good m'.now
abbrev WS2 (m : M) (bs : S) (m' : M) : Prop := ∃ m1, WS1 m m1 ∧ m1.appendE besN bs = 0 ∧ m' = m1.append besN bs
abbrev WS3 (m : M) (bs : S) (m' : M) : Prop := ∃ m1, WS2 m bs m1 ∧ m1.onE besN = 0 ∧ m' = m1.sync besN
abbrev WS4 (m : M) (nm bs : S) (m' : M) : Prop := ∃ m1, WS3 m bs m1 ∧ m1.renameE besN nm = 0 ∧ m' = m1.rename besN nm
abbrev WS5 (m : M) (nm bs : S) (m' : M) : Prop := ∃ m1, WS4 m nm bs m1 ∧ m1.actE = 0 ∧ m' = m1.names
abbrev WSt (m : M) (nm bs : S) : Nat → M → Prop
  | 0, m' => m' = m
  | 1, m' => WS1 m m'
  | 2, m' => WS2 m bs m'
  | 3, m' => WS3 m bs m'
  | 4, m' => WS4 m nm bs m'
  | _, m' => WS5 m nm bs m'
def WRes (m : M) (nm bs : S) (en : Nat) (m' : M) : Prop :=
  (en = 0 ∧ WSt m nm bs 5 m') ∨ (en ≠ 0 ∧ ((en = m.createE besN ∧ ∃ b, m' = m.create besN b) ∨ (∃ m1, WSt m nm bs 1 m1 ∧ en = m1.appendE besN bs ∧ m' = m1.append besN bs) ∨ (∃ m1, WSt m nm bs 2 m1 ∧ en = m1.onE besN ∧ m' = m1.sync besN) ∨
    (∃ m1, WSt m nm bs 3 m1 ∧ en = m1.renameE besN nm ∧ m' = m1.rename besN nm) ∨ (∃ m1, WSt m nm bs 4 m1 ∧ en = m1.actE ∧ m' = m1.names)))
theorem WSt_small {m : M} {nm bs : S} : ∀ {k : Nat} {m' : M}, WSt m nm bs k m' → m'.done ≤ m.done + 5 ∧ m'.room = m.room := by
  have h1 : ∀ m', WSt m nm bs 1 m' → m'.done ≤ m.done + 1 ∧ m'.room = m.room := by
    rintro m' ⟨_, b, rfl, _⟩; exact sm_create m _ b
  have h2 : ∀ m', WSt m nm bs 2 m' → m'.done ≤ m.done + 2 ∧ m'.room = m.room := by
    rintro m' ⟨m1, k1, _, rfl⟩
    have a := h1 m1 k1
    have c := sm_append m1 besN bs
    exact ⟨by omega, by rw [c.2, a.2]⟩
  have h3 : ∀ m', WSt m nm bs 3 m' → m'.done ≤ m.done + 3 ∧ m'.room = m.room := by
    rintro m' ⟨m1, k1, _, rfl⟩
    have a := h2 m1 k1
    have c := sm_sync m1 besN
    exact ⟨by omega, by rw [c.2, a.2]⟩
  have h4 : ∀ m', WSt m nm bs 4 m' → m'.done ≤ m.done + 4 ∧ m'.room = m.room := by
    rintro m' ⟨m1, k1, _, rfl⟩
    have a := h3 m1 k1
    have c := sm_rename m1 besN nm
    exact ⟨by omega, by rw [c.2, a.2]⟩
  intro k m' h
  match k, h with
  | 0, h => have h : m' = m := h; subst h; exact ⟨by omega, rfl⟩
  | 1, h => have := h1 m' h; exact ⟨by omega, this.2⟩
  | 2, h => have := h2 m' h; exact ⟨by omega, this.2⟩
  | 3, h => have := h3 m' h; exact ⟨by omega, this.2⟩
  | 4, h => have := h4 m' h; exact ⟨by omega, this.2⟩
  | k + 5, h =>
    obtain ⟨m1, k1, _, rfl⟩ := h
    have a := h4 m1 k1
    have c := sm_names m1
    exact ⟨by omega, by rw [c.2, a.2]⟩
set_option maxHeartbeats 4000000 in
theorem io_write (w : World) (T : Nat → Tag) (q : Nat) (m : M) (p xc : Nat) (R : Rep w T q m) (hd : m.done < 900000) (hxc : w.cell? ⟨xc, 0, none⟩ = some (.pointer (some ⟨p, 0, none⟩))) (txc : T xc = .none) (hp0 : w.cell? ⟨p, 0, none⟩ = some (.pointer (some ⟨q, 0, none⟩))) (tp : T p = .none) (xn : Nat) (nm : S) (hnm : nm.length ≤ 1000) (hxn : w.cell? ⟨xn, 0, none⟩ = some (.string (str nm))) (txn : T xn = .none) (xp : Nat) (A : Option Addr) (c n : Nat) (bs : S) (hn : n = bs.length) (hbs : RdN w T A bs) (hA : A = none → c = 0) (hbl0 : bs.length ≤ 1000000) (hroom : -1000000000000 ≤ m.room) (hxp : w.cell? ⟨xp, 0, none⟩ = some (.slice A n c)) (txp : T xp = .none)
    (b : Nat) (hb : w.heap[b]? = some (.cells #[.func (.func 75) #[] #[.pointer (some ⟨xc, 0, none⟩)], .func (.func 76) #[] #[.pointer (some ⟨xc, 0, none⟩), .pointer (some ⟨xp, 0, none⟩)], .func (.func 77) #[] #[.pointer (some ⟨xc, 0, none⟩)], .func (.func 78) #[] #[.pointer (some ⟨xc, 0, none⟩), .pointer (some ⟨xn, 0, none⟩)], .func (.func 15) #[.pointer (some ⟨q, 0, none⟩)] #[]] 39)) (tb : T b = .none) :
    Calls Tryz.prog 41 #[.slice (some ⟨b, 0, none⟩) 5 5] w fun e w' => ∃ en m' T', e = .returned (.int .i64 ((en : Nat) : Int)) ∧ WRes m nm bs en m' ∧ Rep w' T' q m' ∧ Ext w T w' T' := by
  have hbl := (Array.getElem?_eq_some_iff.1 hb).1
  have hX : Hid (∀ wr T1, Ext w T wr T1 → wr.heap[b]? = some (.cells #[.func (.func 75) #[] #[.pointer (some ⟨xc, 0, none⟩)], .func (.func 76) #[] #[.pointer (some ⟨xc, 0, none⟩), .pointer (some ⟨xp, 0, none⟩)], .func (.func 77) #[] #[.pointer (some ⟨xc, 0, none⟩)], .func (.func 78) #[] #[.pointer (some ⟨xc, 0, none⟩), .pointer (some ⟨xn, 0, none⟩)], .func (.func 15) #[.pointer (some ⟨q, 0, none⟩)] #[]] 39)) := fun wr T1 X => (X.block b hbl tb).trans hb
  have lxc := block_lt_of_cell hxc
  have lp := block_lt_of_cell hp0
  have lxn := block_lt_of_cell hxn
  have lxp := block_lt_of_cell hxp
  have HN := Lib.hid (And.intro (fun (wr : World) (T1 : Nat → Tag) (X : Ext w T wr T1) => And.intro ((World.cell?_of_block (a := ⟨xn, 0, none⟩) (X.block xn lxn txn)).trans hxn) ((X.tags xn lxn).trans txn)) hnm)
  have HP := Lib.hid (And.intro (fun (wr : World) (T1 : Nat → Tag) (X : Ext w T wr T1) => And.intro ((World.cell?_of_block (a := ⟨xp, 0, none⟩) (X.block xp lxp txp)).trans hxp) (And.intro ((X.tags xp lxp).trans txp) (hbs.ext X))) (And.intro hn (And.intro hA (And.intro hbl0 hroom))))
  have HKp := Lib.hid (And.intro (fun (wr : World) (T1 : Nat → Tag) (X : Ext w T wr T1) => And.intro ((World.cell?_of_block (a := ⟨xc, 0, none⟩) (X.block xc lxc txc)).trans hxc) (And.intro ((X.tags xc lxc).trans txc) (And.intro ((World.cell?_of_block (a := ⟨p, 0, none⟩) (X.block p lp tp)).trans hp0) ((X.tags p lp).trans tp)))) hd)
  have hS0 : Hid (∃ T1 m1, WSt m nm bs 0 m1 ∧ Rep w T1 q m1 ∧ Ext w T w T1) := ⟨T, m, rfl, R, Ext.refl w T⟩
  clear R hd hxc txc hp0 tp hb tb hbl lxc lp hnm hxn txn hn hbs hA hbl0 hroom hxp txp lxn lxp
  go_enter Tryz.func41, Tryz.ntmps41
  go_wp2
  go_loopw [8] (fun i wr => (i = .int .i64 0 ∧ Hid (∃ T1 m1, WSt m nm bs 0 m1 ∧ Rep wr T1 q m1 ∧ Ext w T wr T1)) ∨ (i = .int .i64 1 ∧ Hid (∃ T1 m1, WSt m nm bs 1 m1 ∧ Rep wr T1 q m1 ∧ Ext w T wr T1)) ∨ (i = .int .i64 2 ∧ Hid (∃ T1 m1, WSt m nm bs 2 m1 ∧ Rep wr T1 q m1 ∧ Ext w T wr T1)) ∨ (i = .int .i64 3 ∧ Hid (∃ T1 m1, WSt m nm bs 3 m1 ∧ Rep wr T1 q m1 ∧ Ext w T wr T1)) ∨ (i = .int .i64 4 ∧ Hid (∃ T1 m1, WSt m nm bs 4 m1 ∧ Rep wr T1 q m1 ∧ Ext w T wr T1)) ∨ (i = .int .i64 5 ∧ Hid (∃ T1 m1, WSt m nm bs 5 m1 ∧ Rep wr T1 q m1 ∧ Ext w T wr T1))) (fun i _ => 5 - (intOf i).toNat)
  case atStart => exact Or.inl ⟨rfl, hS0⟩
  case round =>
    rcases hrel with ⟨rfl, HR⟩ | ⟨rfl, HR⟩ | ⟨rfl, HR⟩ | ⟨rfl, HR⟩ | ⟨rfl, HR⟩ | ⟨rfl, HR⟩
    · obtain ⟨T1, m1, hst, R1, X1⟩ := HR.out
      obtain ⟨hk, hk2, hk3, hk4⟩ := HKp.out.1 wr T1 X1
      have hsm := WSt_small hst
      have hcl : wr.cell? ⟨b, 0, none⟩ = some (.func (.func 75) #[] #[.pointer (some ⟨xc, 0, none⟩)]) := cell_of_row wr b 0 _ 39 (0, 0) (hX.out wr T1 X1)
      have c9 := cl75_any wr T1 q m1 p xc R1 (by have := HKp.out.2; omega) hk hk2 hk3 hk4
      have HS := Lib.hid (And.intro hst X1)
      clear hst R1 X1 hk hk2 hk3 hk4 hsm HR hS0
      obtain ⟨co, hco⟩ : ∃ n, n = m1.createE besN := ⟨_, rfl⟩
      rw [← hco] at c9
      have HCO := Lib.hid hco
      clear hco
      by_cases h0 : co = 0
      · have h0' : (co : Int) = 0 := by omega
        have HC0 := Lib.hid h0
        clear h0
        go_wp2_with (go_at_call 75; (refine c9.mono ?_); rintro e w2 ⟨rfl, T2, b9, R2, X2⟩; have H2 := Lib.hid (And.intro R2 X2); clear R2 X2 c9)
        go_roundw
        case rel => exact Or.inr (Or.inl ⟨rfl, ⟨T2, _, ⟨(HS.out.1 : m1 = m) ▸ (HCO.out.symm.trans HC0.out), b9, (HS.out.1 : m1 = m) ▸ rfl, rep_good0 H2.out.1⟩, H2.out.1, HS.out.2.trans H2.out.2⟩⟩)
        case measure => simp [intOf]
      · have h0' : ¬ (co : Int) = 0 := by omega
        have HC0 := Lib.hid h0
        clear h0
        go_wp2_with (go_at_call 75; (refine c9.mono ?_); rintro e w2 ⟨rfl, T2, b9, R2, X2⟩; have H2 := Lib.hid (And.intro R2 X2); clear R2 X2 c9)
        go_ret
        exact ⟨co, _, T2, rfl, Or.inr ⟨HC0.out, Or.inl ⟨(HS.out.1 : m1 = m) ▸ HCO.out, b9, (HS.out.1 : m1 = m) ▸ rfl⟩⟩, H2.out.1, HS.out.2.trans H2.out.2⟩
    · obtain ⟨T1, m1, hst, R1, X1⟩ := HR.out
      obtain ⟨hk, hk2, hk3, hk4⟩ := HKp.out.1 wr T1 X1
      have hsm := WSt_small hst
      have hcl : wr.cell? ⟨b, 1, none⟩ = some (.func (.func 76) #[] #[.pointer (some ⟨xc, 0, none⟩), .pointer (some ⟨xp, 0, none⟩)]) := cell_of_row wr b 1 _ 39 (0, 0) (hX.out wr T1 X1)
      have c9 := cl76_any wr T1 q m1 p xc R1 (by have := HKp.out.2; omega) hk hk2 hk3 hk4 A c n bs HP.out.2.1 (HP.out.1 wr T1 X1).2.2 HP.out.2.2.1 HP.out.2.2.2.1 (by rw [hsm.2]; exact HP.out.2.2.2.2) xp (HP.out.1 wr T1 X1).1 (HP.out.1 wr T1 X1).2.1
      have HS := Lib.hid (And.intro hst X1)
      clear hst R1 X1 hk hk2 hk3 hk4 hsm HR hS0
      obtain ⟨co, hco⟩ : ∃ n, n = m1.appendE besN bs := ⟨_, rfl⟩
      rw [← hco] at c9
      have HCO := Lib.hid hco
      clear hco
      by_cases h0 : co = 0
      · have h0' : (co : Int) = 0 := by omega
        have HC0 := Lib.hid h0
        clear h0
        go_wp2_with (go_at_call 76; (refine c9.mono ?_); rintro e w2 ⟨rfl, T2, R2, X2⟩; have H2 := Lib.hid (And.intro R2 X2); clear R2 X2 c9)
        go_roundw
        case rel => exact Or.inr (Or.inr (Or.inl ⟨rfl, ⟨T2, _, ⟨m1, HS.out.1, (HCO.out.symm.trans HC0.out), rfl⟩, H2.out.1, HS.out.2.trans H2.out.2⟩⟩))
        case measure => simp [intOf]
      · have h0' : ¬ (co : Int) = 0 := by omega
        have HC0 := Lib.hid h0
        clear h0
        go_wp2_with (go_at_call 76; (refine c9.mono ?_); rintro e w2 ⟨rfl, T2, R2, X2⟩; have H2 := Lib.hid (And.intro R2 X2); clear R2 X2 c9)
        go_ret
        exact ⟨co, _, T2, rfl, Or.inr ⟨HC0.out, Or.inr (Or.inl ⟨m1, HS.out.1, HCO.out, rfl⟩)⟩, H2.out.1, HS.out.2.trans H2.out.2⟩
    · obtain ⟨T1, m1, hst, R1, X1⟩ := HR.out
      obtain ⟨hk, hk2, hk3, hk4⟩ := HKp.out.1 wr T1 X1
      have hsm := WSt_small hst
      have hcl : wr.cell? ⟨b, 2, none⟩ = some (.func (.func 77) #[] #[.pointer (some ⟨xc, 0, none⟩)]) := cell_of_row wr b 2 _ 39 (0, 0) (hX.out wr T1 X1)
      have c9 := cl77_any wr T1 q m1 p xc R1 (by have := HKp.out.2; omega) hk hk2 hk3 hk4
      have HS := Lib.hid (And.intro hst X1)
      clear hst R1 X1 hk hk2 hk3 hk4 hsm HR hS0
      obtain ⟨co, hco⟩ : ∃ n, n = m1.onE besN := ⟨_, rfl⟩
      rw [← hco] at c9
      have HCO := Lib.hid hco
      clear hco
      by_cases h0 : co = 0
      · have h0' : (co : Int) = 0 := by omega
        have HC0 := Lib.hid h0
        clear h0
        go_wp2_with (go_at_call 77; (refine c9.mono ?_); rintro e w2 ⟨rfl, T2, R2, X2⟩; have H2 := Lib.hid (And.intro R2 X2); clear R2 X2 c9)
        go_roundw
        case rel => exact Or.inr (Or.inr (Or.inr (Or.inl ⟨rfl, ⟨T2, _, ⟨m1, HS.out.1, (HCO.out.symm.trans HC0.out), rfl⟩, H2.out.1, HS.out.2.trans H2.out.2⟩⟩)))
        case measure => simp [intOf]
      · have h0' : ¬ (co : Int) = 0 := by omega
        have HC0 := Lib.hid h0
        clear h0
        go_wp2_with (go_at_call 77; (refine c9.mono ?_); rintro e w2 ⟨rfl, T2, R2, X2⟩; have H2 := Lib.hid (And.intro R2 X2); clear R2 X2 c9)
        go_ret
        exact ⟨co, _, T2, rfl, Or.inr ⟨HC0.out, Or.inr (Or.inr (Or.inl ⟨m1, HS.out.1, HCO.out, rfl⟩))⟩, H2.out.1, HS.out.2.trans H2.out.2⟩
    · obtain ⟨T1, m1, hst, R1, X1⟩ := HR.out
      obtain ⟨hk, hk2, hk3, hk4⟩ := HKp.out.1 wr T1 X1
      have hsm := WSt_small hst
      have hcl : wr.cell? ⟨b, 3, none⟩ = some (.func (.func 78) #[] #[.pointer (some ⟨xc, 0, none⟩), .pointer (some ⟨xn, 0, none⟩)]) := cell_of_row wr b 3 _ 39 (0, 0) (hX.out wr T1 X1)
      have c9 := cl78_any wr T1 q m1 p xc R1 (by have := HKp.out.2; omega) hk hk2 hk3 hk4 nm HN.out.2 xn (HN.out.1 wr T1 X1).1 (HN.out.1 wr T1 X1).2
      have HS := Lib.hid (And.intro hst X1)
      clear hst R1 X1 hk hk2 hk3 hk4 hsm HR hS0
      obtain ⟨co, hco⟩ : ∃ n, n = m1.renameE besN nm := ⟨_, rfl⟩
      rw [← hco] at c9
      have HCO := Lib.hid hco
      clear hco
      by_cases h0 : co = 0
      · have h0' : (co : Int) = 0 := by omega
        have HC0 := Lib.hid h0
        clear h0
        go_wp2_with (go_at_call 78; (refine c9.mono ?_); rintro e w2 ⟨rfl, T2, R2, X2⟩; have H2 := Lib.hid (And.intro R2 X2); clear R2 X2 c9)
        go_roundw
        case rel => exact Or.inr (Or.inr (Or.inr (Or.inr (Or.inl ⟨rfl, ⟨T2, _, ⟨m1, HS.out.1, (HCO.out.symm.trans HC0.out), rfl⟩, H2.out.1, HS.out.2.trans H2.out.2⟩⟩))))
        case measure => simp [intOf]
      · have h0' : ¬ (co : Int) = 0 := by omega
        have HC0 := Lib.hid h0
        clear h0
        go_wp2_with (go_at_call 78; (refine c9.mono ?_); rintro e w2 ⟨rfl, T2, R2, X2⟩; have H2 := Lib.hid (And.intro R2 X2); clear R2 X2 c9)
        go_ret
        exact ⟨co, _, T2, rfl, Or.inr ⟨HC0.out, Or.inr (Or.inr (Or.inr (Or.inl ⟨m1, HS.out.1, HCO.out, rfl⟩)))⟩, H2.out.1, HS.out.2.trans H2.out.2⟩
    · obtain ⟨T1, m1, hst, R1, X1⟩ := HR.out
      obtain ⟨hk, hk2, hk3, hk4⟩ := HKp.out.1 wr T1 X1
      have hsm := WSt_small hst
      have hcl : wr.cell? ⟨b, 4, none⟩ = some (.func (.func 15) #[.pointer (some ⟨q, 0, none⟩)] #[]) := cell_of_row wr b 4 _ 39 (0, 0) (hX.out wr T1 X1)
      have c9 := Shf.names_rep wr T1 q m1 R1 (by have := HKp.out.2; omega)
      have HS := Lib.hid (And.intro hst X1)
      clear hst R1 X1 hk hk2 hk3 hk4 hsm HR hS0
      obtain ⟨co, hco⟩ : ∃ n, n = m1.actE := ⟨_, rfl⟩
      rw [← hco] at c9
      have HCO := Lib.hid hco
      clear hco
      by_cases h0 : co = 0
      · have h0' : (co : Int) = 0 := by omega
        have HC0 := Lib.hid h0
        clear h0
        go_wp2_with (go_at_call 15; (refine c9.mono ?_); rintro e w2 ⟨rfl, T2, R2, X2⟩; have H2 := Lib.hid (And.intro R2 X2); clear R2 X2 c9)
        go_roundw
        case rel => exact Or.inr (Or.inr (Or.inr (Or.inr (Or.inr (⟨rfl, ⟨T2, _, ⟨m1, HS.out.1, (HCO.out.symm.trans HC0.out), rfl⟩, H2.out.1, HS.out.2.trans H2.out.2⟩⟩)))))
        case measure => simp [intOf]
      · have h0' : ¬ (co : Int) = 0 := by omega
        have HC0 := Lib.hid h0
        clear h0
        go_wp2_with (go_at_call 15; (refine c9.mono ?_); rintro e w2 ⟨rfl, T2, R2, X2⟩; have H2 := Lib.hid (And.intro R2 X2); clear R2 X2 c9)
        go_ret
        exact ⟨co, _, T2, rfl, Or.inr ⟨HC0.out, Or.inr (Or.inr (Or.inr (Or.inr ⟨m1, HS.out.1, HCO.out, rfl⟩)))⟩, H2.out.1, HS.out.2.trans H2.out.2⟩
    · obtain ⟨T1, m1, hst, R1, X1⟩ := HR.out
      have HS := Lib.hid (And.intro hst (And.intro R1 X1))
      clear hst R1 X1 HR hS0
      go_wp2
      go_ret
      exact ⟨0, m1, T1, rfl, Or.inl ⟨rfl, HS.out.1⟩, HS.out.2.1, HS.out.2.2⟩
end Go.Proofs.YtdbhgkbmbbjpdaaGreatDoor.Chr
