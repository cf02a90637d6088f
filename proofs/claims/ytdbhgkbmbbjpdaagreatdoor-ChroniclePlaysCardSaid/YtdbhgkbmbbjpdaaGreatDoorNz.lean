/- Open. -/
import Derived.Test.YtdbhgkbmbbjpdaaGreatDoorNy
namespace Go.Proofs.YtdbhgkbmbbjpdaaGreatDoor.Chr
variable {lo : Nat}
open Go.ChangeShapes Go.WideShapes Go.ChangeAt Go.RowKit
open Shf (S str)
open Coin (Rd Row Own sz coin got Pur takeV endV CoinSaid)
open Frm (pack err size kind cnt body noItem itemV OneSaid)
set_option maxRecDepth 8000
set_option linter.unusedVariables false
open Shf (Tag Ext Rep M RdN)
open Coin (CoinOwn)
theorem idx_str : str idxN = ⟨#[105, 110, 100, 101, 120]⟩ := by rfl
theorem nob8 (q mo : Nat) : NoB #[.pointer (some ⟨q, 0, none⟩), .int .i64 (mo : Int), .int .u64 0, .int .u64 0, .int .u64 0, .slice none 0 0, .slice none 0 0, .bool false] := fun i b e => by
  match i, e with
  | 0, e => cases e
  | 1, e => cases e
  | 2, e => cases e
  | 3, e => cases e
  | 4, e => cases e
  | 5, e => cases e
  | 6, e => cases e
  | 7, e => cases e
  | n + 8, e => simp at e
def opV (en p : Nat) : Value := match en with
  | 0 => .pointer (some ⟨p, 0, none⟩)
  | _ + 1 => .pointer none
theorem opV_ne {en p : Nat} (h : en ≠ 0) : opV en p = .pointer none := by
  cases en with
  | zero => exact absurd rfl h
  | succ n => rfl
def OpenM (c0 : CD) (isNew : Bool) (m : M) (en : Nat) (m' : M) (c' : CD) : Prop := ∃ e1 m1, OtM c0 m e1 m1 c' ∧ ((isNew = true ∧ e1 = 0 ∧ WrM c'.own m1 idxN (headB 1 0 0) en m') ∨ (¬ (isNew = true ∧ e1 = 0) ∧ en = e1 ∧ m' = m1))
def OpSaid (lo : Nat) (w : World) (T : Nat → Tag) (q : Nat) (m : M) (c0 : CD) (isNew : Bool) (e : Ending) (w' : World) : Prop :=
  ∃ (p en : Nat) (m' : M) (c' : CD) (T' : Nat → Tag), e = .returned (.tuple #[opV en p, .int .i64 (en : Int)]) ∧ OpenM c0 isNew m en m' c' ∧ Rep w' T' q m' ∧ CAt w.heap.size w' T' p q c' ∧ Kq w.heap.size w T w' T' ∧ w.heap.size ≤ p
theorem head_new : hdOk (headB 1 0 0) = true ∧ whole (headB 1 0 0) = true ∧ valP (body (headB 1 0 0)) 0 = 1 ∧ valP (body (headB 1 0 0)) 1 = 0 ∧ valP (body (headB 1 0 0)) 2 = 0 ∧ (headB 1 0 0).length ≤ 1000 := by decide +kernel
set_option maxHeartbeats 4000000 in
theorem open_new (w : World) (T : Nat → Tag) (q : Nat) (m : M) (mo : Nat) (R : Rep w T q m) (he : m.readE idxN = 2) (I : TvI ⟨mo, 1, 0, 0, [], [], false⟩ m) (hms : Nms m 4000) (hd : m.done ≤ 600000) (hroom : -1000000000000 ≤ m.room) :
    Calls Tryz.prog 11 #[.pointer (some ⟨q, 0, none⟩), .int .i64 (mo : Int)] w (OpSaid w.heap.size w T q m ⟨mo, 1, 0, 0, [], [], false⟩ true) := by
  have c25 := Shf.read_rep w T q m idxN R (by decide)
  rw [he, idx_str] at c25
  have c38 : ∀ y, Calls Tryz.prog 38 #[.agg #[.int .u64 1, .int .u64 0, .int .u64 0]] y (CoinOwn y (headB 1 0 0)) := fun y => head_own y 1 0 0 (by decide) (by decide) (by decide)
  obtain ⟨hn, hhn⟩ : ∃ x, x = (headB 1 0 0).length := ⟨_, rfl⟩
  have HHL : Hid (hn = (headB 1 0 0).length ∧ hn ≤ 1000) := ⟨hhn, by rw [hhn]; exact head_new.2.2.2.2.2⟩
  obtain ⟨c0, hc0⟩ : ∃ x : CD, x = ⟨mo, 1, 0, 0, [], [], false⟩ := ⟨_, rfl⟩
  rw [← hc0] at I ⊢
  have HI := Lib.hid (And.intro I (And.intro (show c0.hB < 100 by rw [hc0]; show 0 < 100; decide) (And.intro hms (And.intro hd hroom))))
  have HR := Lib.hid R
  have HC0 := Lib.hid hc0
  have HTN : Hid (∀ b, w.heap.size ≤ b → T b = .none) := fun b hb => rep_old R hb
  have hcs : hdCs (whole (headB 1 0 0)) #[.pointer (some ⟨q, 0, none⟩), .int .i64 (mo : Int), .int .u64 0, .int .u64 0, .int .u64 0, .slice none 0 0, .slice none 0 0, .bool false] (headB 1 0 0) = #[.pointer (some ⟨q, 0, none⟩), .int .i64 (mo : Int), .int .u64 1, .int .u64 0, .int .u64 0, .slice none 0 0, .slice none 0 0, .bool false] := by
    have h := head_new
    rw [h.2.1]
    unfold hdCs setJ setJ setJ setJ
    rw [h.2.2.1, h.2.2.2.1, h.2.2.2.2.1]
    rfl
  have HCS := Lib.hid hcs
  clear R he I hms hd hroom hhn hc0 hcs
  go_enter Tryz.func11, Tryz.ntmps11
  go_upto_region 8 with (first
    | (go_at_call 25; (with_reducible refine c25.mono ?_); rintro e w1 ⟨v, rfl, hf, B1⟩; obtain ⟨A1, cc1, rfl, -, -, -⟩ := fresh_form hf; have HB1 := Lib.hid B1; clear hf B1 c25)
    | (go_at_call 38; (with_reducible refine (c38 _).mono ?_); rintro e w2 ⟨v2, rfl, O2, B2⟩; obtain ⟨IA, ic, rfl, -, -, -⟩ := O2.form; rw [← HHL.out.1] at O2 ⊢; have HO2 := Lib.hid (And.intro O2 (HB1.out.trans (B2.mono HB1.out.size))); clear O2 B2 c38))
  have N3' := heap_alloc_new w2 (.cells #[.pointer (some ⟨q, 0, none⟩), .int .i64 (mo : Int), .int .u64 0, .int .u64 0, .int .u64 0, .slice none 0 0, .slice none 0 0, .bool false] 82)
  have B3' : Below w2.heap.size w2 (w2.alloc (.cells #[.pointer (some ⟨q, 0, none⟩), .int .i64 (mo : Int), .int .u64 0, .int .u64 0, .int .u64 0, .slice none 0 0, .slice none 0 0, .bool false] 82)) := (Below.refl _ _).alloc (Nat.le_refl _) _
  generalize w2.alloc (.cells #[.pointer (some ⟨q, 0, none⟩), .int .i64 (mo : Int), .int .u64 0, .int .u64 0, .int .u64 0, .slice none 0 0, .slice none 0 0, .bool false] 82) = w3 at *
  obtain ⟨p, hp⟩ : ∃ x, x = w2.heap.size := ⟨_, rfl⟩
  rw [← hp] at N3' ⊢
  have HPS : Hid (w.heap.size ≤ p) := by show _ ≤ p; rw [hp]; exact HO2.out.2.size
  have p2 : PAt w2 T IA ic (headB 1 0 0) := pat_own (own_le HO2.out.1 HB1.out.size) HTN.out HHL.out.1
  have p3 := p2.below B3'
  have hrd : Rd w3 w3.heap.size IA (headB 1 0 0) := p3.rd
  have c39 := takeHead_any w3 p #[.pointer (some ⟨q, 0, none⟩), .int .i64 (mo : Int), .int .u64 0, .int .u64 0, .int .u64 0, .slice none 0 0, .slice none 0 0, .bool false] N3' rfl (nob8 q mo) IA hn ic (headB 1 0 0) HHL.out.1 (by have := HHL.out; omega) p3.2.1 p3.1 hrd
  rw [HCS.out, head_new.1] at c39
  have HB3 := Lib.hid (HO2.out.2.trans (B3'.mono HO2.out.2.size))
  have HP3 := Lib.hid (And.intro p3 (notTy N3' (t := 5) (by decide)))
  clear N3' B3' hp p2 p3 hrd
  have c40 : ∀ y, y.heap[p]? = some (.cells #[.pointer (some ⟨q, 0, none⟩), .int .i64 (mo : Int), .int .u64 1, .int .u64 0, .int .u64 0, .slice none 0 0, .slice none 0 0, .bool false] 82 (0, 0)) → Calls Tryz.prog 40 #[.pointer (some ⟨p, 0, none⟩)] y fun e w' => e = .returned (.bool true) ∧ y = w' := fun y hy => takeBase_none y p q mo 1 0 _ _ hy
  go_upto_region 10 with (first
    | (go_at_call 39; (with_reducible refine c39.mono ?_); rintro e w4 ⟨rfl, G4, N4⟩; have HG4 := Lib.hid G4; have HN4 := Lib.hid N4; have c40' := c40 w4 N4; clear G4 N4 c39 c40)
    | (go_at_call 40; (with_reducible refine c40'.mono ?_); rintro e wx ⟨rfl, rfl⟩; clear c40'))
  have hbel : Below w.heap.size w w4 := Coin.below_grown HB3.out HG4.out HPS.out
  have HX : Hid (Rep w4 T q m ∧ CAt w.heap.size w4 T p q c0 ∧ Kq w.heap.size w T w4 T) := ⟨HR.out.below hbel, ⟨none, 0, .slice none 0 0, none, by rw [HC0.out]; exact HN4.out, HTN.out p HPS.out, by rw [HC0.out]; exact ⟨fun _ => rfl, Nat.le_refl _, fun h => absurd h (Nat.lt_irrefl 0)⟩, by rw [HC0.out]; exact ⟨[], rfl, OwnO.nil w4 60 4, fun g h => (by cases h), fun x hx => (by cases hx), List.Pairwise.nil, fun g h => (by cases h), fun x hx => (by cases hx)⟩, HPS.out⟩, kq_kp (kp_below hbel T)⟩
  have HIX := Lib.hid (HP3.out.1.grown HG4.out HP3.out.2)
  clear hbel HP3
  generalize w4 = wx at *
  have c41 := open_io wx T p q m c0 _ rfl HX.out.1 HX.out.2.1 HI.out.1 HI.out.2.1 HI.out.2.2.1
  go_upto_region 11 with (go_at_call 41; (with_reducible refine c41.mono ?_); rintro e w5 ⟨en, rfl, m3, c3, T3, h3, R3, C3, K3⟩; have H3 := Lib.hid (And.intro h3 (And.intro R3 (And.intro C3 (And.intro (HX.out.2.2.trans K3) K3)))); clear h3 R3 C3 K3 c41)
  by_cases h0 : en = 0
  · have h0' : (en : Int) = 0 := by omega
    have HE0 := Lib.hid h0
    clear h0
    have iv := otM_inv HI.out.1 H3.out.1 HI.out.2.2.1
    obtain ⟨l3, hc3⟩ := iv.2.2.2.1
    have px := HIX.out.kq H3.out.2.2.2.2
    have c44 := write_any w5 T3 p q m3 c3 H3.out.2.1 H3.out.2.2.1 iv.1 (by rw [hc3]; exact HI.out.2.1) iv.2.1 (by have := iv.2.2.2.2.1; have := HI.out.2.2.2.1; omega) (nms_mono iv.2.2.2.2.2.2 (by decide)) idxN (by decide) IA ic hn (headB 1 0 0) HHL.out.1 px.rdn px.1 (by have := HHL.out; omega) (by rw [iv.2.2.2.2.2.1]; exact HI.out.2.2.2.2)
    rw [idx_str] at c44
    clear iv hc3 px
    go_upto_region 13 with (go_at_call 44; (with_reducible refine c44.mono ?_); rintro e w6 ⟨e4, m4, T4, rfl, hw4, R4, X4⟩; have H4 := Lib.hid (And.intro hw4 (And.intro R4 X4)); clear hw4 R4 X4 c44)
    by_cases h1 : e4 = 0
    · have h1' : (e4 : Int) = 0 := by omega
      have HE1 := Lib.hid h1
      clear h1
      go_wp2
      go_ret2
      exact ⟨p, e4, m4, c3, T4, by rw [HE1.out]; rfl, ⟨0, m3, by rw [← HE0.out]; exact H3.out.1, Or.inl ⟨rfl, rfl, H4.out.1⟩⟩, H4.out.2.1, H3.out.2.2.1.keep (kp_ext H4.out.2.2), H3.out.2.2.2.1.trans (kq_kp (kp_ext H4.out.2.2)), HPS.out⟩
    · have h1' : ¬ (e4 : Int) = 0 := by omega
      have HE1 := Lib.hid h1
      clear h1
      go_wp2
      go_ret2
      exact ⟨p, e4, m4, c3, T4, by rw [opV_ne HE1.out]; rfl, ⟨0, m3, by rw [← HE0.out]; exact H3.out.1, Or.inl ⟨rfl, rfl, H4.out.1⟩⟩, H4.out.2.1, H3.out.2.2.1.keep (kp_ext H4.out.2.2), H3.out.2.2.2.1.trans (kq_kp (kp_ext H4.out.2.2)), HPS.out⟩
  · have h0' : ¬ (en : Int) = 0 := by omega
    have HE0 := Lib.hid h0
    clear h0
    go_wp2
    go_ret2
    exact ⟨p, en, m3, c3, T3, by rw [opV_ne HE0.out]; rfl, ⟨en, m3, H3.out.1, Or.inr ⟨fun h => HE0.out h.2, rfl, rfl⟩⟩, H3.out.2.1, H3.out.2.2.1, H3.out.2.2.2.1, HPS.out⟩
set_option maxHeartbeats 4000000 in
theorem open_old (w : World) (T : Nat → Tag) (q : Nat) (m : M) (mo : Nat) (R : Rep w T q m) (he : m.readE idxN = 0) (hok : hdOk (m.readP idxN) = true) (hB0 : valP (body (m.readP idxN)) 1 = 0) (I : TvI (⟨mo, valP (body (m.readP idxN)) 0, valP (body (m.readP idxN)) 1, valP (body (m.readP idxN)) 2, [], [], false⟩ : CD) m) (hB9 : valP (body (m.readP idxN)) 1 < 100) (hms : Nms m 4000) (hd : m.done ≤ 600000) (hroom : -1000000000000 ≤ m.room) :
    Calls Tryz.prog 11 #[.pointer (some ⟨q, 0, none⟩), .int .i64 (mo : Int)] w (OpSaid w.heap.size w T q m (⟨mo, valP (body (m.readP idxN)) 0, valP (body (m.readP idxN)) 1, valP (body (m.readP idxN)) 2, [], [], false⟩ : CD) false) := by
  have c25 := Shf.read_rep w T q m idxN R (by decide)
  rw [he, idx_str] at c25
  have hfl := I.fl
  obtain ⟨l, hl⟩ : ∃ x, x = m.readP idxN := ⟨_, rfl⟩
  rw [← hl] at hB0 hok I hB9 c25 ⊢
  have hwl : whole l = true := by unfold hdOk at hok; exact (Bool.and_eq_true_iff.1 hok).1
  obtain ⟨hF, hhF⟩ : ∃ x, x = valP (body l) 0 := ⟨_, rfl⟩
  obtain ⟨hB, hhB⟩ : ∃ x, x = valP (body l) 1 := ⟨_, rfl⟩
  obtain ⟨hU, hhU⟩ : ∃ x, x = valP (body l) 2 := ⟨_, rfl⟩
  have hcs : hdCs (whole l) #[.pointer (some ⟨q, 0, none⟩), .int .i64 (mo : Int), .int .u64 0, .int .u64 0, .int .u64 0, .slice none 0 0, .slice none 0 0, .bool false] l = #[.pointer (some ⟨q, 0, none⟩), .int .i64 (mo : Int), .int .u64 (hF : Int), .int .u64 (hB : Int), .int .u64 (hU : Int), .slice none 0 0, .slice none 0 0, .bool false] := by
    rw [hwl, hhF, hhB, hhU]; rfl
  rw [← hhF, ← hhB, ← hhU] at I ⊢
  rw [← hhB] at hB0 hB9
  obtain ⟨c0, hc0⟩ : ∃ x : CD, x = ⟨mo, hF, hB, hU, [], [], false⟩ := ⟨_, rfl⟩
  rw [← hc0] at I ⊢
  have HI := Lib.hid (And.intro I (And.intro (show c0.hB < 100 by rw [hc0]; exact hB9) (And.intro hms (And.intro hd hroom))))
  have HR := Lib.hid R
  have HCS := Lib.hid (And.intro hcs (And.intro hok (And.intro hB0 hc0)))
  have HFL : Hid (l.length ≤ 900000) := by show l.length ≤ _; rw [hl]; exact hfl _
  have HTN : Hid (∀ b, w.heap.size ≤ b → T b = .none) := fun b hb => rep_old R hb
  clear R he hok hB0 I hB9 hms hd hroom hfl hl hwl hhF hhB hhU hcs hc0
  go_enter Tryz.func11, Tryz.ntmps11
  go_upto_region 8 with (go_at_call 25; (with_reducible refine c25.mono ?_); rintro e w1 ⟨v, rfl, hf, B1⟩; obtain ⟨IA, ic, rfl, r1, r2, r3⟩ := fresh_form hf; have H1 := Lib.hid (And.intro r1 (And.intro r2 (And.intro r3 B1))); clear hf r1 r2 r3 B1 c25)
  have N3' := heap_alloc_new w1 (.cells #[.pointer (some ⟨q, 0, none⟩), .int .i64 (mo : Int), .int .u64 0, .int .u64 0, .int .u64 0, .slice none 0 0, .slice none 0 0, .bool false] 82)
  have B3' : Below w1.heap.size w1 (w1.alloc (.cells #[.pointer (some ⟨q, 0, none⟩), .int .i64 (mo : Int), .int .u64 0, .int .u64 0, .int .u64 0, .slice none 0 0, .slice none 0 0, .bool false] 82)) := (Below.refl _ _).alloc (Nat.le_refl _) _
  generalize w1.alloc (.cells #[.pointer (some ⟨q, 0, none⟩), .int .i64 (mo : Int), .int .u64 0, .int .u64 0, .int .u64 0, .slice none 0 0, .slice none 0 0, .bool false] 82) = w3 at *
  obtain ⟨p, hp⟩ : ∃ x, x = w1.heap.size := ⟨_, rfl⟩
  rw [← hp] at N3' ⊢
  have HPS : Hid (w.heap.size ≤ p) := by show _ ≤ p; rw [hp]; exact H1.out.2.2.2.size
  have c39 := takeHead_any w3 p #[.pointer (some ⟨q, 0, none⟩), .int .i64 (mo : Int), .int .u64 0, .int .u64 0, .int .u64 0, .slice none 0 0, .slice none 0 0, .bool false] N3' rfl (nob8 q mo) IA l.length ic l rfl HFL.out H1.out.2.1 H1.out.2.2.1 ((H1.out.1.below B3' (Nat.le_refl _)).more B3'.size)
  rw [HCS.out.1, HCS.out.2.1] at c39
  have HB3 := Lib.hid (H1.out.2.2.2.trans (B3'.mono H1.out.2.2.2.size))
  have HN3 := Lib.hid N3'
  clear N3' B3' hp
  have c40 : ∀ y, y.heap[p]? = some (.cells #[.pointer (some ⟨q, 0, none⟩), .int .i64 (mo : Int), .int .u64 (hF : Int), .int .u64 (hB : Int), .int .u64 (hU : Int), .slice none 0 0, .slice none 0 0, .bool false] 82 (0, 0)) → Calls Tryz.prog 40 #[.pointer (some ⟨p, 0, none⟩)] y fun e w' => e = .returned (.bool true) ∧ y = w' := fun y hy => by
    rw [HCS.out.2.2.1] at hy
    exact takeBase_none y p q mo hF hU _ _ hy
  go_upto_region 10 with (first
    | (go_at_call 39; (with_reducible refine c39.mono ?_); rintro e w4 ⟨rfl, G4, N4⟩; have HG4 := Lib.hid G4; have HN4 := Lib.hid N4; have c40' := c40 w4 N4; clear G4 N4 c39 c40)
    | (go_at_call 40; (with_reducible refine c40'.mono ?_); rintro e wx ⟨rfl, rfl⟩; clear c40'))
  have hbel : Below w.heap.size w w4 := Coin.below_grown HB3.out HG4.out HPS.out
  have HX : Hid (Rep w4 T q m ∧ CAt w.heap.size w4 T p q c0 ∧ Kq w.heap.size w T w4 T) := ⟨HR.out.below hbel, ⟨none, 0, .slice none 0 0, none, by rw [HCS.out.2.2.2]; exact HN4.out, HTN.out p HPS.out, by rw [HCS.out.2.2.2]; exact ⟨fun _ => rfl, Nat.le_refl _, fun h => absurd h (Nat.lt_irrefl 0)⟩, by rw [HCS.out.2.2.2]; exact ⟨[], rfl, OwnO.nil w4 60 4, fun g h => (by cases h), fun x hx => (by cases hx), List.Pairwise.nil, fun g h => (by cases h), fun x hx => (by cases hx)⟩, HPS.out⟩, kq_kp (kp_below hbel T)⟩
  clear hbel
  generalize w4 = wx at *
  have c41 := open_io wx T p q m c0 _ rfl HX.out.1 HX.out.2.1 HI.out.1 HI.out.2.1 HI.out.2.2.1
  go_upto_region 11 with (go_at_call 41; (with_reducible refine c41.mono ?_); rintro e w5 ⟨en, rfl, m3, c3, T3, h3, R3, C3, K3⟩; have H3 := Lib.hid (And.intro h3 (And.intro R3 (And.intro C3 (And.intro (HX.out.2.2.trans K3) K3)))); clear h3 R3 C3 K3 c41)
  by_cases h0 : en = 0
  · have h0' : (en : Int) = 0 := by omega
    have HE0 := Lib.hid h0
    clear h0
    go_wp2
    go_ret2
    exact ⟨p, en, m3, c3, T3, by rw [HE0.out]; rfl, ⟨en, m3, H3.out.1, Or.inr ⟨fun h => absurd h.1 (by decide), rfl, rfl⟩⟩, H3.out.2.1, H3.out.2.2.1, H3.out.2.2.2.1, HPS.out⟩
  · have h0' : ¬ (en : Int) = 0 := by omega
    have HE0 := Lib.hid h0
    clear h0
    go_wp2
    go_ret2
    exact ⟨p, en, m3, c3, T3, by rw [opV_ne HE0.out]; rfl, ⟨en, m3, H3.out.1, Or.inr ⟨fun h => HE0.out h.2, rfl, rfl⟩⟩, H3.out.2.1, H3.out.2.2.1, H3.out.2.2.2.1, HPS.out⟩
set_option maxHeartbeats 4000000 in
theorem open_oldB (w : World) (T : Nat → Tag) (q : Nat) (m : M) (mo : Nat) (R : Rep w T q m) (he : m.readE idxN = 0) (hok : hdOk (m.readP idxN) = true) (hB0 : valP (body (m.readP idxN)) 1 ≠ 0) (hb1 : m.readE (bName (valP (body (m.readP idxN)) 1)) = 0) (hb2 : whole (m.readP (bName (valP (body (m.readP idxN)) 1))) = true) (hb3 : (kind (m.readP (bName (valP (body (m.readP idxN)) 1)))).toNat = 98) (I : TvI (⟨mo, valP (body (m.readP idxN)) 0, valP (body (m.readP idxN)) 1, valP (body (m.readP idxN)) 2, (body (m.readP (bName (valP (body (m.readP idxN)) 1)))), [], false⟩ : CD) m) (hB9 : valP (body (m.readP idxN)) 1 < 100) (hms : Nms m 4000) (hd : m.done ≤ 600000) (hroom : -1000000000000 ≤ m.room) :
    Calls Tryz.prog 11 #[.pointer (some ⟨q, 0, none⟩), .int .i64 (mo : Int)] w (OpSaid w.heap.size w T q m (⟨mo, valP (body (m.readP idxN)) 0, valP (body (m.readP idxN)) 1, valP (body (m.readP idxN)) 2, (body (m.readP (bName (valP (body (m.readP idxN)) 1)))), [], false⟩ : CD) false) := by
  have c25 := Shf.read_rep w T q m idxN R (by decide)
  rw [he, idx_str] at c25
  have hfl := I.fl
  obtain ⟨l, hl⟩ : ∃ x, x = m.readP idxN := ⟨_, rfl⟩
  rw [← hl] at hB0 hb1 hb2 hb3 hok I hB9 c25 ⊢
  have hwl : whole l = true := by unfold hdOk at hok; exact (Bool.and_eq_true_iff.1 hok).1
  obtain ⟨hF, hhF⟩ : ∃ x, x = valP (body l) 0 := ⟨_, rfl⟩
  obtain ⟨hB, hhB⟩ : ∃ x, x = valP (body l) 1 := ⟨_, rfl⟩
  obtain ⟨hU, hhU⟩ : ∃ x, x = valP (body l) 2 := ⟨_, rfl⟩
  have hcs : hdCs (whole l) #[.pointer (some ⟨q, 0, none⟩), .int .i64 (mo : Int), .int .u64 0, .int .u64 0, .int .u64 0, .slice none 0 0, .slice none 0 0, .bool false] l = #[.pointer (some ⟨q, 0, none⟩), .int .i64 (mo : Int), .int .u64 (hF : Int), .int .u64 (hB : Int), .int .u64 (hU : Int), .slice none 0 0, .slice none 0 0, .bool false] := by
    rw [hwl, hhF, hhB, hhU]; rfl
  rw [← hhF, ← hhB, ← hhU] at I ⊢
  rw [← hhB] at hB0 hb1 hb2 hb3 hB9
  obtain ⟨lb, hlb⟩ : ∃ x, x = m.readP (bName hB) := ⟨_, rfl⟩
  rw [← hlb] at hb2 hb3 I ⊢
  have hbl : lb.length ≤ 900000 := by rw [hlb]; exact hfl _
  obtain ⟨c0, hc0⟩ : ∃ x : CD, x = ⟨mo, hF, hB, hU, body lb, [], false⟩ := ⟨_, rfl⟩
  rw [← hc0] at I ⊢
  have HI := Lib.hid (And.intro I (And.intro (show c0.hB < 100 by rw [hc0]; exact hB9) (And.intro hms (And.intro hd hroom))))
  have HR := Lib.hid R
  have HCS := Lib.hid (And.intro hcs (And.intro hok (And.intro hB0 hc0)))
  have HFL : Hid (l.length ≤ 900000) := by show l.length ≤ _; rw [hl]; exact hfl _
  have HTN : Hid (∀ b, w.heap.size ≤ b → T b = .none) := fun b hb => rep_old R hb
  have HBB := Lib.hid (And.intro hb1 (And.intro hb2 (And.intro hb3 (And.intro hbl (And.intro hlb hB9)))))
  clear hb1 hb2 hb3 hbl hlb
  clear R he hok hB0 I hB9 hms hd hroom hfl hl hwl hhF hhB hhU hcs hc0
  go_enter Tryz.func11, Tryz.ntmps11
  go_upto_region 8 with (go_at_call 25; (with_reducible refine c25.mono ?_); rintro e w1 ⟨v, rfl, hf, B1⟩; obtain ⟨IA, ic, rfl, r1, r2, r3⟩ := fresh_form hf; have H1 := Lib.hid (And.intro r1 (And.intro r2 (And.intro r3 B1))); clear hf r1 r2 r3 B1 c25)
  have N3' := heap_alloc_new w1 (.cells #[.pointer (some ⟨q, 0, none⟩), .int .i64 (mo : Int), .int .u64 0, .int .u64 0, .int .u64 0, .slice none 0 0, .slice none 0 0, .bool false] 82)
  have B3' : Below w1.heap.size w1 (w1.alloc (.cells #[.pointer (some ⟨q, 0, none⟩), .int .i64 (mo : Int), .int .u64 0, .int .u64 0, .int .u64 0, .slice none 0 0, .slice none 0 0, .bool false] 82)) := (Below.refl _ _).alloc (Nat.le_refl _) _
  generalize w1.alloc (.cells #[.pointer (some ⟨q, 0, none⟩), .int .i64 (mo : Int), .int .u64 0, .int .u64 0, .int .u64 0, .slice none 0 0, .slice none 0 0, .bool false] 82) = w3 at *
  obtain ⟨p, hp⟩ : ∃ x, x = w1.heap.size := ⟨_, rfl⟩
  rw [← hp] at N3' ⊢
  have HPS : Hid (w.heap.size ≤ p) := by show _ ≤ p; rw [hp]; exact H1.out.2.2.2.size
  have c39 := takeHead_any w3 p #[.pointer (some ⟨q, 0, none⟩), .int .i64 (mo : Int), .int .u64 0, .int .u64 0, .int .u64 0, .slice none 0 0, .slice none 0 0, .bool false] N3' rfl (nob8 q mo) IA l.length ic l rfl HFL.out H1.out.2.1 H1.out.2.2.1 ((H1.out.1.below B3' (Nat.le_refl _)).more B3'.size)
  rw [HCS.out.1, HCS.out.2.1] at c39
  have HB3 := Lib.hid (H1.out.2.2.2.trans (B3'.mono H1.out.2.2.2.size))
  have HN3 := Lib.hid N3'
  clear N3' B3' hp
  have c40 : ∀ y, Below w.heap.size w y → y.heap[p]? = some (.cells #[.pointer (some ⟨q, 0, none⟩), .int .i64 (mo : Int), .int .u64 (hF : Int), .int .u64 (hB : Int), .int .u64 (hU : Int), .slice none 0 0, .slice none 0 0, .bool false] 82 (0, 0)) → Calls Tryz.prog 40 #[.pointer (some ⟨p, 0, none⟩)] y fun e w' => ∃ A9 bc, e = .returned (.bool true) ∧ y.grownBy w' (some p) ∧ w'.heap[p]? = some (.cells #[.pointer (some ⟨q, 0, none⟩), .int .i64 (mo : Int), .int .u64 (hF : Int), .int .u64 (hB : Int), .int .u64 (hU : Int), .slice A9 (body lb).length bc, .slice none 0 0, .bool false] 82 (0, 0)) ∧ PAt w' T A9 bc (body lb) := fun y hy hrow => by
    refine (takeBase_any y T p q m (HR.out.below hy) mo hF hB hU hrow HCS.out.2.2.1 HBB.out.2.2.2.2.2 (by rw [← HBB.out.2.2.2.2.1]; exact HBB.out.2.2.2.1)).mono ?_
    rintro e w' ⟨A9, bn, bc, rfl, h1, h2, h3⟩
    rw [← HBB.out.2.2.2.2.1] at h3 ⊢
    obtain ⟨rfl, h5⟩ := h3 HBB.out.1 HBB.out.2.1
    refine ⟨A9, bc, ?_, h1, h2, h5⟩
    rw [HBB.out.1, HBB.out.2.1, HBB.out.2.2.1]
    rfl
  go_upto_region 10 with (first
    | (go_at_call 39; (with_reducible refine c39.mono ?_); rintro e w4 ⟨rfl, G4, N4⟩; have B4 := Coin.below_grown HB3.out G4 HPS.out; have c40' := c40 w4 B4 N4; have HB4 := Lib.hid B4; clear G4 N4 B4 c39 c40)
    | (go_at_call 40; (with_reducible refine c40'.mono ?_); rintro e wx ⟨A9, bc, rfl, G5, N5, P5⟩; have HG5 := Lib.hid (And.intro G5 (And.intro N5 P5)); clear G5 N5 P5 c40'))
  have hbel : Below w.heap.size w wx := Coin.below_grown HB4.out HG5.out.1 HPS.out
  have HX : Hid (Rep wx T q m ∧ CAt w.heap.size wx T p q c0 ∧ Kq w.heap.size w T wx T) := ⟨HR.out.below hbel, ⟨A9, bc, .slice none 0 0, none, by rw [HCS.out.2.2.2]; exact HG5.out.2.1, HTN.out p HPS.out, by rw [HCS.out.2.2.2]; exact HG5.out.2.2, by rw [HCS.out.2.2.2]; exact ⟨[], rfl, OwnO.nil wx 60 4, fun g h => (by cases h), fun x hx => (by cases hx), List.Pairwise.nil, fun g h => (by cases h), fun x hx => (by cases hx)⟩, HPS.out⟩, kq_kp (kp_below hbel T)⟩
  clear hbel
  have c41 := open_io wx T p q m c0 _ rfl HX.out.1 HX.out.2.1 HI.out.1 HI.out.2.1 HI.out.2.2.1
  go_upto_region 11 with (go_at_call 41; (with_reducible refine c41.mono ?_); rintro e w5 ⟨en, rfl, m3, c3, T3, h3, R3, C3, K3⟩; have H3 := Lib.hid (And.intro h3 (And.intro R3 (And.intro C3 (And.intro (HX.out.2.2.trans K3) K3)))); clear h3 R3 C3 K3 c41)
  by_cases h0 : en = 0
  · have h0' : (en : Int) = 0 := by omega
    have HE0 := Lib.hid h0
    clear h0
    go_wp2
    go_ret2
    exact ⟨p, en, m3, c3, T3, by rw [HE0.out]; rfl, ⟨en, m3, H3.out.1, Or.inr ⟨fun h => absurd h.1 (by decide), rfl, rfl⟩⟩, H3.out.2.1, H3.out.2.2.1, H3.out.2.2.2.1, HPS.out⟩
  · have h0' : ¬ (en : Int) = 0 := by omega
    have HE0 := Lib.hid h0
    clear h0
    go_wp2
    go_ret2
    exact ⟨p, en, m3, c3, T3, by rw [opV_ne HE0.out]; rfl, ⟨en, m3, H3.out.1, Or.inr ⟨fun h => HE0.out h.2, rfl, rfl⟩⟩, H3.out.2.1, H3.out.2.2.1, H3.out.2.2.2.1, HPS.out⟩
end Go.Proofs.YtdbhgkbmbbjpdaaGreatDoor.Chr
