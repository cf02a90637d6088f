/- What takeVolumes and tidy leave; both, one behind the other. -/
import Derived.Test.YtdbhgkbmbbjpdaaGreatDoorNx
namespace Go.Proofs.YtdbhgkbmbbjpdaaGreatDoor.Chr
variable {lo : Nat}
open Go.ChangeShapes Go.WideShapes Go.ChangeAt Go.RowKit
open Shf (S str)
open Coin (Rd Row Own sz coin got Pur takeV endV CoinSaid)
open Frm (pack err size kind cnt body noItem itemV OneSaid)
set_option maxRecDepth 8000
set_option linter.unusedVariables false
open Shf (Tag Ext Rep M RdN act_now act_done)
theorem nms_cut {m : M} {k : Nat} (h : Nms m k) (s : S) (n : Int) : Nms (m.cut s n) k := by
  have a := nms_act h
  unfold Shf.M.cut
  split
  · exact a
  · split <;> exact a
theorem tvs_inv : ∀ (n : Nat) (c : CD) (m : M) (e : Nat) (m' : M) (c' : CD), TvI c m → TvsN n c m e m' c' → c'.Small ∧ (∀ d ∈ c'.vols, d.no < 100) ∧ c'.vols.length ≤ 500 ∧ c'.next ≤ 500900000 ∧ (∃ l, c' = {c with vols := c.vols ++ l}) ∧ m'.done ≤ m.done + (100 - c.nextNo) ∧ m'.room = m.room ∧ ∀ k, Nms m k → Nms m' k
  | n, c, m, e, m', c', I, h => by
    have fin : ∀ {ok : Bool} {e : Nat} {m' : M} {c' : CD}, TvM c m ok e m' c' → m'.done ≤ m.done + 1 ∧ m'.room = m.room ∧ (∀ k, Nms m k → Nms m' k) ∧ ∃ l, c' = {c with vols := c.vols ++ l} := fun {ok e m' c'} h => by
      have h0 : ∃ l, c = {c with vols := c.vols ++ l} := ⟨[], by simp⟩
      rcases h with ⟨_, _, _, rfl, rfl⟩ | ⟨_, _, _, _, rfl, rfl⟩ | ⟨_, d, _, _, _, _, _, rfl, _, ⟨_, _, rfl⟩ | ⟨_, _, rfl⟩⟩
      · exact ⟨Nat.le_succ _, rfl, fun _ h => h, h0⟩
      · exact ⟨Nat.le_succ _, rfl, fun _ h => h, h0⟩
      · exact ⟨(sm_cut m _ _).1, (sm_cut m _ _).2, fun k h => nms_cut h _ _, [d], rfl⟩
      · exact ⟨Nat.le_succ _, rfl, fun _ h => h, [d], rfl⟩
    have hno := I.no
    match n, h with
    | 0, h =>
      obtain ⟨_, s2, _, s4, s5, s6⟩ := I.step h
      obtain ⟨f1, f2, f3, f4⟩ := fin h
      exact ⟨s2, s5, s4, s6, f4, by omega, f2, f3⟩
    | n + 1, ⟨e1, m1, c1, h1, h2⟩ =>
      obtain ⟨_, s2, s3, s4, s5, s6⟩ := I.step h1
      obtain ⟨f1, f2, f3, l, f4⟩ := fin h1
      have I1 := (s3 rfl).1
      have hn1 : c1.nextNo = c.nextNo + 1 := by
        rcases h1 with ⟨_, h, _⟩ | ⟨_, _, h, _⟩ | ⟨_, d, _, _, h3, _, _, rfl, _⟩
        · cases h
        · cases h
        · have hgl : (c.vols ++ [d]).getLast? = some d := by simp
          unfold CD.nextNo
          rw [hgl]
          show d.no + 1 = c.nextNo + 1
          rw [h3]
      obtain ⟨r1, r2, r3, r4, ⟨l2, r5⟩, r6, r7, r8⟩ := tvs_inv n c1 m1 e m' c' I1 h2
      have := I1.no
      exact ⟨r1, r2, r3, r4, ⟨l ++ l2, by rw [r5, f4]; simp [List.append_assoc]⟩, by omega, r7.trans f2, fun k h => r8 k (f3 k h)⟩
theorem tks_inv {c : CD} {m : M} {e : Nat} {m' : M} {c' : CD} (I : TvI c m) (h : TksM c m e m' c') : c'.Small ∧ (∀ d ∈ c'.vols, d.no < 100) ∧ c'.vols.length ≤ 500 ∧ (∃ l, c' = {c with vols := l}) ∧ m'.done ≤ m.done + 100 ∧ m'.room = m.room ∧ ∀ k, Nms m k → Nms m' k := by
  obtain ⟨c1, ⟨n, ht⟩, rfl⟩ := h
  obtain ⟨r1, r2, r3, r4, ⟨l2, r5⟩, r6, r7, r8⟩ := tvs_inv n c m e m' c1 I ht
  split
  · exact ⟨⟨r1.hF, r1.hU, Nat.zero_le _, fun d hd => by cases hd⟩, (fun d hd => by cases hd), Nat.zero_le _, ⟨[], by rw [r5]⟩, by omega, r7, r8⟩
  · exact ⟨r1, r2, r3, ⟨_, r5⟩, by omega, r7, r8⟩
theorem tidyL_inv (own : List S) : ∀ (l : List S) (m : M) (k : Nat), Nms m k → (tidyL own l m).2.done ≤ m.done + l.length ∧ (tidyL own l m).2.room = m.room ∧ Nms (tidyL own l m).2 (k + l.length)
  | [], m, k, h => ⟨Nat.le_refl _, rfl, h⟩
  | s :: l, m, k, h => by
    have sd := sm_delete m s
    have nd := nms_delete h s
    unfold tidyL
    simp only [List.length_cons]
    split
    · obtain ⟨a, b, c⟩ := tidyL_inv own l m k h
      exact ⟨by omega, b, nms_mono c (by omega)⟩
    · split
      · obtain ⟨a, b, c⟩ := tidyL_inv own l (m.delete s) (k + 1) nd
        exact ⟨by omega, b.trans sd.2, nms_mono c (by omega)⟩
      · exact ⟨by show (m.delete s).done ≤ _; omega, sd.2, nms_mono nd (by omega)⟩
theorem tidyM_inv (own : List S) (m : M) (k : Nat) (h : Nms m k) : (tidyM own m).2.done ≤ m.done + k + 1 ∧ (tidyM own m).2.room = m.room ∧ Nms (tidyM own m).2 (k + k) := by
  have hl := (nms_list h).1
  obtain ⟨a, b, c⟩ := tidyL_inv own m.list m k h
  unfold tidyM tidyEnd
  split
  · split
    · exact ⟨by show (tidyL own m.list m).2.done ≤ _; omega, b, nms_mono c (by omega)⟩
    · have sn := sm_names (tidyL own m.list m).2
      exact ⟨by show (Shf.M.names _).done ≤ _; omega, sn.2.trans b, nms_mono (nms_names c) (by omega)⟩
  · exact ⟨by omega, b, nms_mono c (by omega)⟩
def OtM (c : CD) (m : M) (e : Nat) (m' : M) (c' : CD) : Prop := ∃ e1 m1, TksM c m e1 m1 c' ∧ ((e1 ≠ 0 ∧ e = e1 ∧ m' = m1) ∨ (e1 = 0 ∧ e = (tidyM c'.own m1).1 ∧ m' = (tidyM c'.own m1).2))
theorem otM_inv {c : CD} {m : M} {e : Nat} {m' : M} {c' : CD} (I : TvI c m) (h : OtM c m e m' c') {k : Nat} (hk : Nms m k) : c'.Small ∧ (∀ d ∈ c'.vols, d.no < 100) ∧ c'.vols.length ≤ 500 ∧ (∃ l, c' = {c with vols := l}) ∧ m'.done ≤ m.done + 100 + k + 1 ∧ m'.room = m.room ∧ Nms m' (k + k) := by
  obtain ⟨e1, m1, ht, h⟩ := h
  obtain ⟨a1, a2, a3, a4, a5, a6, a7⟩ := tks_inv I ht
  rcases h with ⟨_, _, rfl⟩ | ⟨_, _, rfl⟩
  · exact ⟨a1, a2, a3, a4, by omega, a6, nms_mono (a7 k hk) (by omega)⟩
  · obtain ⟨b1, b2, b3⟩ := tidyM_inv c'.own m1 k (a7 k hk)
    exact ⟨a1, a2, a3, a4, by omega, b2.trans a6, b3⟩
theorem open_io (w : World) (T : Nat → Tag) (p q : Nat) (m : M) (c : CD) (w2 : World) (hw2 : w2 = w.alloc (.cells #[.func (.func 42) #[.pointer (some ⟨p, 0, none⟩)] #[], .func (.func 43) #[.pointer (some ⟨p, 0, none⟩)] #[]] 39)) (R : Rep w T q m) (h : CAt lo w T p q c) (I : TvI c m) (hB : c.hB < 100) (hms : Nms m 4000) :
    Calls Tryz.prog 41 #[.slice (some ⟨w.heap.size, 0, none⟩) 2 2] w2 fun e w' => ∃ en : Nat, e = .returned (.int .i64 (en : Int)) ∧ ∃ m3 c3 T3, OtM c m en m3 c3 ∧ Rep w' T3 q m3 ∧ CAt lo w' T3 p q c3 ∧ Kq lo w T w' T3 := by
  have B2 : Below w.heap.size w w2 := by rw [hw2]; exact (Below.refl _ _).alloc (Nat.le_refl _) _
  have N2 : w2.heap[w.heap.size]? = some (.cells #[.func (.func 42) #[.pointer (some ⟨p, 0, none⟩)] #[], .func (.func 43) #[.pointer (some ⟨p, 0, none⟩)] #[]] 39 (0, 0)) := by rw [hw2]; exact heap_alloc_new w _
  have tb : T w.heap.size = .none := rep_old R (Nat.le_refl _)
  refine io_42_43 w2 p w.heap.size (fun y => y = w2) (fun y => ∃ m1 c1 T1, TksM c m 0 m1 c1 ∧ Rep y T1 q m1 ∧ CAt lo y T1 p q c1 ∧ Kq lo w2 T y T1) _ rfl (fun y e => by rw [e]; exact N2) (fun y ⟨m1, c1, T1, _, _, _, K⟩ => (K.block _ (Array.getElem?_eq_some_iff.1 N2).1 tb (notTy N2 (by decide)) (notTy N2 (by decide)) (notTy N2 (by decide))).trans N2) (fun y e => ?_) (fun y ⟨m1, c1, T1, ht, R1, C1, K1⟩ => ?_)
  · rw [e]
    refine (takeVs_any w2 T p q m c (R.below B2) (h.keep (kp_below B2 T)) I).mono ?_
    rintro e w' ⟨en, m', c', T', rfl, ht, R', C', K'⟩
    refine ⟨en, rfl, fun h0 => ⟨m', c', T', by rw [h0] at ht; exact ht, R', C', K'⟩, fun h0 => ⟨m', c', T', ⟨en, m', ht, Or.inl ⟨h0, rfl, rfl⟩⟩, R', C', (kq_kp (kp_below B2 T)).trans K'⟩⟩
  · obtain ⟨a1, a2, a3, ⟨l, a4⟩, a5, a6, a7⟩ := tks_inv I ht
    have nl := nms_list (a7 4000 hms)
    have := I.dn
    refine (tidy_any y T1 p q m1 c1 R1 C1 a1 (by rw [a4]; exact hB) a2 (by omega) (by omega) nl.2).mono ?_
    rintro e w' ⟨T', rfl, R', X'⟩
    exact ⟨_, rfl, _, c1, T', ⟨0, m1, ht, Or.inr ⟨rfl, rfl, rfl⟩⟩, R', C1.keep (kp_ext X'), ((kq_kp (kp_below B2 T)).trans K1).trans (kq_kp (kp_ext X'))⟩
end Go.Proofs.YtdbhgkbmbbjpdaaGreatDoor.Chr
