/- All volumes out of their files. -/
import Derived.Test.YtdbhgkbmbbjpdaaGreatDoorNw
namespace Go.Proofs.YtdbhgkbmbbjpdaaGreatDoor.Chr
variable {lo : Nat}
open Go.ChangeShapes Go.WideShapes Go.ChangeAt Go.RowKit
open Shf (S str)
open Coin (Rd Row Own sz coin got Pur takeV endV CoinSaid)
open Frm (pack err size kind cnt body noItem itemV OneSaid)
set_option maxRecDepth 8000
set_option linter.unusedVariables false
open Shf (Tag Ext Rep M RdN act_now act_done)
def TvsN : Nat → CD → M → Nat → M → CD → Prop
  | 0, c, m, e, m', c' => TvM c m false e m' c'
  | n + 1, c, m, e, m', c' => ∃ e1 m1 c1, TvM c m true e1 m1 c1 ∧ TvsN n c1 m1 e m' c'
def Tvs (c : CD) (m : M) (e : Nat) (m' : M) (c' : CD) : Prop := ∃ n, TvsN n c m e m' c'
theorem Tvs.stop {c : CD} {m : M} {e : Nat} {m' : M} {c' : CD} (h : TvM c m false e m' c') : Tvs c m e m' c' := ⟨0, h⟩
theorem Tvs.more {c : CD} {m : M} {e : Nat} {m1 : M} {c1 : CD} {e' : Nat} {m' : M} {c' : CD} (h : TvM c m true e m1 c1) (t : Tvs c1 m1 e' m' c') : Tvs c m e' m' c' := by
  obtain ⟨n, t⟩ := t
  exact ⟨n + 1, e, m1, c1, h, t⟩
theorem act_fallen (m : M) (h : m.fallen = true) : m.act.fallen = true := by
  unfold Shf.M.act
  rw [if_pos h]
  exact h
def TksM (c : CD) (m : M) (e : Nat) (m' : M) (c' : CD) : Prop := ∃ c1, Tvs c m e m' c1 ∧ c' = (match decide (c1.next ≤ c1.hU) with | true => {c1 with vols := []} | false => c1)
theorem chain_len (l : S) : ∀ (xs : List Nat) (a b : Nat), Frm.chain l a xs b → a + xs.length ≤ b
  | [], a, b, h => Nat.le_of_eq h
  | x :: xs, a, b, h => by
    obtain ⟨_, _, _, h4⟩ := h
    have := chain_len l xs _ b h4
    have h5 : 1 ≤ size (l.drop a) := by unfold Frm.size; omega
    simp only [List.length_cons]
    omega
theorem volIs_len {l : S} {d : VolD} (h : VolIs l d) : d.its.length ≤ l.length := by
  obtain ⟨ps, b, e, h1, h2, _, _, rfl⟩ := h
  have h3 := chain_len l _ _ _ h1
  have h4 := (Frm.chain_le l _ 0 b (Nat.zero_le _) h1).2
  simp only [List.length_cons] at h3
  show (ps.map (itAt l)).length ≤ _
  rw [List.length_map]
  omega
theorem readP_cut (m : M) (s t : S) (n : Int) : ((m.cut s n).readP t).length ≤ (m.readP t).length ∨ ∃ u, ((m.cut s n).readP t).length ≤ u ∧ u = (m.readP t).length := by
  left
  have a := act_now m
  have hfall : (m.act).fallen = false → m.fallen = false := fun h => by
    have := act_fallen m
    cases hm : m.fallen with
    | false => rfl
    | true => rw [this hm] at h; cases h
  have key : ∀ mm : M, mm.now = m.now → (mm.fallen = false → m.fallen = false) → (∀ b, (mm.fl b).1.length ≤ (m.fl b).1.length) → (mm.readP t).length ≤ (m.readP t).length := fun mm h1 h2 h3 => by
    unfold Shf.M.readP
    cases hf : mm.fallen with
    | true => simp
    | false =>
      rw [h2 hf, h1]
      simp only [Bool.false_eq_true, if_false]
      cases hg : Shf.get m.now t with
      | none => simp
      | some b => exact h3 b
  unfold Shf.M.cut
  split
  · exact key _ a.1 hfall (fun b => by rw [a.2.2.2.1]; exact Nat.le_refl _)
  · split
    · exact key _ a.1 hfall (fun b => by rw [a.2.2.2.1]; exact Nat.le_refl _)
    · refine key _ a.1 hfall (fun b => ?_)
      show (if b = _ then _ else _ : S × Nat).1.length ≤ _
      split
      · rename_i h; rw [h]; simp only [List.length_take]; omega
      · exact Nat.le_refl _
theorem readE_cut (m : M) (s t : S) (n : Int) (h : m.readE t ≠ 0) : (m.cut s n).readE t ≠ 0 := by
  have a := act_now m
  have key : ∀ mm : M, mm.now = m.now → (m.fallen = true → mm.fallen = true) → mm.readE t ≠ 0 := fun mm h1 h2 => by
    unfold Shf.M.readE at h ⊢
    cases hf : mm.fallen with
    | true => simp
    | false =>
      have hf2 : m.fallen = false := by
        cases hm : m.fallen with
        | false => rfl
        | true => rw [h2 hm] at hf; cases hf
      rw [hf2] at h
      rw [h1]
      simpa using h
  unfold Shf.M.cut
  split
  · exact key _ a.1 (act_fallen m)
  · split
    · exact key _ a.1 (act_fallen m)
    · exact key _ a.1 (act_fallen m)
structure TvI (c : CD) (m : M) : Prop where
  sm : c.Small
  no : c.nextNo ≤ 99
  nx : c.next + (99 - c.nextNo) * 900000 ≤ 500000000
  ln : c.vols.length + (99 - c.nextNo) ≤ 500
  dn : m.done + (99 - c.nextNo) ≤ 700000
  fl : ∀ s, (m.readP s).length ≤ 900000
  la : m.readE (vName 99) ≠ 0
  hv : ∀ d ∈ c.vols, d.no < 100
theorem TvI.step {c : CD} {m : M} (I : TvI c m) {ok : Bool} {e : Nat} {m1 : M} {c1 : CD} (h : TvM c m ok e m1 c1) : (c1 = c ∨ ∃ d, c1 = {c with vols := c.vols ++ [d]}) ∧ c1.Small ∧ (ok = true → TvI c1 m1 ∧ c1.vols.length = c.vols.length + 1) ∧ c1.vols.length ≤ 500 ∧ (∀ d ∈ c1.vols, d.no < 100) ∧ c1.next ≤ 500900000 := by
  have ln := I.ln
  have nx := I.nx
  rcases h with ⟨_, rfl, _, rfl, rfl⟩ | ⟨_, _, rfl, _, rfl, rfl⟩ | ⟨h0, d, h1, h2, h3, h4, h5, rfl, h6, h7⟩
  · exact ⟨Or.inl rfl, I.sm, (fun h => by cases h), by omega, I.hv, by omega⟩
  · exact ⟨Or.inl rfl, I.sm, (fun h => by cases h), by omega, I.hv, by omega⟩
  · have hno : c.nextNo < 99 := by
      rcases Nat.lt_or_ge c.nextNo 99 with h | h
      · exact h
      · have e9 : c.nextNo = 99 := by have := I.no; omega
        rw [e9] at h0
        exact absurd h0 I.la
    have hlen := volIs_len h1
    have hfl := I.fl (vName c.nextNo)
    have hgl : (c.vols ++ [d]).getLast? = some d := by simp
    have e1 : ({c with vols := c.vols ++ [d]} : CD).nextNo = c.nextNo + 1 := by unfold CD.nextNo; rw [hgl]; show d.no + 1 = c.nextNo + 1; rw [h3]
    have e2 : ({c with vols := c.vols ++ [d]} : CD).next = d.first + d.its.length := by unfold CD.next; rw [hgl]; rfl
    have hfi : d.first ≤ c.next := by
      unfold CD.follows at h4
      split at h4
      · exact of_decide_eq_true h4
      · exact Nat.le_of_eq (of_decide_eq_true h4)
    have el : ({c with vols := c.vols ++ [d]} : CD).vols.length = c.vols.length + 1 := by show (c.vols ++ [d]).length = _; simp
    have hmul : (99 - c.nextNo) * 900000 = (99 - (c.nextNo + 1)) * 900000 + 900000 := by omega
    have hv2 : ∀ x ∈ c.vols ++ [d], x.no < 100 := fun x hx => by
      rcases List.mem_append.1 hx with hx | hx
      · exact I.hv x hx
      · rw [List.mem_singleton.1 hx, h3]; omega
    have sm2 : ({c with vols := c.vols ++ [d]} : CD).Small := by
      refine ⟨I.sm.hF, I.sm.hU, by rw [el]; omega, fun x hx => ?_⟩
      rcases List.mem_append.1 hx with hx | hx
      · exact I.sm.v x hx
      · rw [List.mem_singleton.1 hx]
        exact ⟨by omega, by omega, by omega, by omega⟩
    refine ⟨Or.inr ⟨d, rfl⟩, sm2, fun _ => ⟨⟨sm2, by rw [e1]; omega, by rw [e1, e2]; omega, by rw [el, e1]; omega, ?_, ?_, ?_, hv2⟩, el⟩, by rw [el]; omega, hv2, by rw [e2]; omega⟩
    · rw [e1]
      have dn := I.dn
      rcases h7 with ⟨_, _, rfl⟩ | ⟨_, _, rfl⟩
      · have := sm_cut m (vName c.nextNo) (d.size : Int); omega
      · omega
    · intro s
      rcases h7 with ⟨_, _, rfl⟩ | ⟨_, _, rfl⟩
      · rcases readP_cut m (vName c.nextNo) s (d.size : Int) with h | ⟨u, h, h'⟩
        · exact Nat.le_trans h (I.fl s)
        · exact Nat.le_trans h (h' ▸ I.fl s)
      · exact I.fl s
    · rcases h7 with ⟨_, _, rfl⟩ | ⟨_, _, rfl⟩
      · exact readE_cut m _ _ _ I.la
      · exact I.la
def lenAt (w : World) (p : Nat) : Nat := match w.cell? ⟨p, 6, none⟩ with
  | some (.slice _ n _) => n
  | _ => 0
theorem CAt.lenAt {w : World} {T : Nat → Tag} {p q : Nat} {c : CD} (h : CAt lo w T p q c) : Chr.lenAt w p = c.vols.length := by
  obtain ⟨bA, bc, vv, gv, h⟩ := h
  obtain ⟨A, cap, rfl⟩ := h.nil
  unfold Chr.lenAt
  rw [(row8 h.row).2.2.2.2.2.2.1]
def TvL (lo : Nat) (w : World) (T : Nat → Tag) (p q : Nat) (m : M) (c : CD) (wr : World) : Prop := ∃ m1 c1 T1, (∀ e m' c', Tvs c1 m1 e m' c' → Tvs c m e m' c') ∧ TvI c1 m1 ∧ c1.hU = c.hU ∧ Rep wr T1 q m1 ∧ CAt lo wr T1 p q c1 ∧ Kq lo w T wr T1
def TvD (lo : Nat) (w : World) (T : Nat → Tag) (p q : Nat) (m : M) (c : CD) (e : Nat) (wr : World) : Prop := ∃ m1 c1 T1, Tvs c m e m1 c1 ∧ c1.Small ∧ c1.hU = c.hU ∧ Rep wr T1 q m1 ∧ CAt lo wr T1 p q c1 ∧ Kq lo w T wr T1
set_option maxHeartbeats 4000000 in
theorem takeVs_any (w : World) (T : Nat → Tag) (p q : Nat) (m : M) (c : CD) (R : Rep w T q m) (h : CAt lo w T p q c) (I : TvI c m) :
    Calls Tryz.prog 42 #[.pointer (some ⟨p, 0, none⟩)] w fun e w' => ∃ (en : Nat) (m' : M) (c' : CD) (T' : Nat → Tag), e = .returned (.int .i64 (en : Int)) ∧ TksM c m en m' c' ∧ Rep w' T' q m' ∧ CAt lo w' T' p q c' ∧ Kq lo w T w' T' := by
  have HS0 : Hid (TvL lo w T p q m c w) := ⟨m, c, T, fun _ _ _ h => h, I, rfl, R, h, kq_kp (Kp.refl w T)⟩
  clear R h I
  go_enter Tryz.func42, Tryz.ntmps42
  go_wp2
  go_loopw [3, 4] (fun mo ev wr => (mo = .bool true ∧ (∃ en : Nat, ev = .int .i64 (en : Int)) ∧ Hid (TvL lo w T p q m c wr)) ∨ (mo = .bool false ∧ ∃ en : Nat, ev = .int .i64 (en : Int) ∧ Hid (TvD lo w T p q m c en wr))) (fun mo ev wr => match mo with | .bool true => 1001 - lenAt wr p | _ => 0)
  case atStart => exact Or.inl ⟨rfl, ⟨0, rfl⟩, HS0⟩
  case round =>
    clear HS0
    rcases hrel with ⟨rfl, ⟨en, rfl⟩, HR⟩ | ⟨rfl, en, rfl, HR⟩
    · obtain ⟨m1, c1, T1, hT, I1, hU1, R1, C1, K1⟩ := HR.out
      have hln := C1.lenAt
      have c71 := takeV_any wr T1 p q m1 c1 R1 C1 I1.sm (by have := I1.dn; omega) (by have := I1.no; omega) (I1.fl _)
      have HI := Lib.hid (And.intro hT (And.intro I1 (And.intro hU1 (And.intro K1 hln))))
      clear hT I1 hU1 R1 C1 K1 hln HR
      unfold TvSaid at c71
      go_wp2_with (go_at_call 71; (with_reducible refine c71.mono ?_); rintro e w2 ⟨ok, e2, m2, c2, T2, rfl, hx⟩; have H2 := Lib.hid hx; clear hx c71)
      go_roundw
      case rel =>
        have st := HI.out.2.1.step H2.out.1
        have hUc : c2.hU = c.hU := by rcases st.1 with h | ⟨d, h⟩ <;> rw [h] <;> exact HI.out.2.2.1
        cases ok with
        | true => exact Or.inl ⟨rfl, ⟨e2, rfl⟩, m2, c2, T2, fun e m' c' ht => HI.out.1 _ _ _ (.more H2.out.1 ht), (st.2.2.1 rfl).1, hUc, H2.out.2.1, H2.out.2.2.1, HI.out.2.2.2.1.trans H2.out.2.2.2⟩
        | false => exact Or.inr ⟨rfl, e2, rfl, m2, c2, T2, HI.out.1 _ _ _ (.stop H2.out.1), st.2.1, hUc, H2.out.2.1, H2.out.2.2.1, HI.out.2.2.2.1.trans H2.out.2.2.2⟩
      case measure =>
        have st := HI.out.2.1.step H2.out.1
        have h1 := HI.out.2.2.2.2
        have h2 := H2.out.2.2.1.lenAt
        have h3 := HI.out.2.1.ln
        cases ok with
        | true =>
          have := (st.2.2.1 rfl).2
          show 1001 - lenAt w2 p < 1001 - lenAt wr p
          omega
        | false =>
          show 0 < 1001 - lenAt wr p
          omega
    · obtain ⟨m1, c1, T1, hT, S1, hU1, R1, C1, K1⟩ := HR.out
      obtain ⟨nx, hnx⟩ : ∃ x, x = c1.next := ⟨_, rfl⟩
      obtain ⟨hU, hhU⟩ : ∃ x, x = c1.hU := ⟨_, rfl⟩
      have HNX : Hid (∀ y, Below wr.heap.size wr y → Calls Tryz.prog 19 #[.pointer (some ⟨p, 0, none⟩)] y fun e w' => e = .returned (.int .u64 (nx : Nat)) ∧ Below y.heap.size y w') := fun y hy => by
        rw [hnx]
        exact next_any y T1 p q c1 (C1.keep (kp_below hy T1)) S1
      have hC1 := C1
      obtain ⟨bA, bc, vv, gv, hC⟩ := hC1
      have HC : Hid (∀ y, Below wr.heap.size wr y → y.cell? ⟨p, 4, none⟩ = some (.int .u64 (hU : Int))) := fun y hy => by
        rw [hhU]
        exact (row8 ((hy.block p (Array.getElem?_eq_some_iff.1 hC.row).1).trans hC.row)).2.2.2.2.1
      have HI := Lib.hid (And.intro hT (And.intro R1 (And.intro hC (And.intro K1 (And.intro hnx hhU)))))
      clear hT S1 hU1 R1 C1 K1 hC HR
      by_cases hle : nx ≤ hU
      · have HLE := Lib.hid hle
        have HD : Hid (decide (c1.next ≤ c1.hU) = true) := by show _ = _; rw [← hnx, ← hhU]; exact decide_eq_true hle
        clear hle hnx hhU
        go_upto_region 4 with (fail)
        have HBW := Lib.hid ((Below.refl wr.heap.size wr).drew)
        refine wp_region_noPanic ?_
        refine wp_region_held_drew (S := fun y : World => y.cell? ⟨p, 4, none⟩ = some (.int .u64 (hU : Int))) (by kernel_rfl) (HC.out _ HBW.out) (fun hHeld => ?_)
        generalize wr.drew = wd at *
        refine wpAnyH_take (i := 0) (oi := ⟨some 11, .move (.tmp 0), 26, "files.go:54", #[], none⟩) (v := .pointer (some ⟨p, 0, none⟩)) rfl (by kernel_rfl) (by kernel_rfl) (by kernel_rfl) (fun _ _ _ h => h) (Or.inl ⟨by rfl, fun w hSw => by go_simp⟩) (by assumption) ?_
        try simp only [Act.put, List.setIfInBounds_toArray, List.set_cons_zero, List.set_cons_succ]
        refine wpAnyH_take (i := 2) (oi := ⟨some 13, .move (.tmp 0), 26, "files.go:54", #[], none⟩) (v := .pointer (some ⟨p, 0, none⟩)) rfl (by kernel_rfl) (by kernel_rfl) (by kernel_rfl) (fun _ _ _ h => h) (Or.inl ⟨by rfl, fun w hSw => by go_simp⟩) (by assumption) ?_
        try simp only [Act.put, List.setIfInBounds_toArray, List.set_cons_zero, List.set_cons_succ]
        refine wpAnyH_take (i := 3) (oi := ⟨some 14, .nilCheck (.tmp 13), 0, "files.go:54", #[⟨2, .data⟩], none⟩) (v := .pointer (some ⟨p, 0, none⟩)) rfl (by kernel_rfl) (by kernel_rfl) (by kernel_rfl) (fun _ _ _ h => h) (Or.inl ⟨by rfl, fun w hSw => by go_simp⟩) (by assumption) ?_
        try simp only [Act.put, List.setIfInBounds_toArray, List.set_cons_zero, List.set_cons_succ]
        refine wpAnyH_take (i := 4) (oi := ⟨some 15, .fieldAddr 82 (.tmp 14) 2, 0, "files.go:54", #[⟨3, .data⟩], none⟩) (v := .pointer (some ⟨p, 2, none⟩)) rfl (by kernel_rfl) (by kernel_rfl) (by kernel_rfl) (fun _ _ _ h => h) (Or.inl ⟨by rfl, fun w hSw => by go_simp⟩) (by assumption) ?_
        try simp only [Act.put, List.setIfInBounds_toArray, List.set_cons_zero, List.set_cons_succ]
        refine wpAnyH_take (i := 5) (oi := ⟨some 16, .fieldAddr 45 (.tmp 15) 2, 0, "files.go:54", #[⟨4, .data⟩], none⟩) (v := .pointer (some ⟨p, 4, none⟩)) rfl (by kernel_rfl) (by kernel_rfl) (by kernel_rfl) (fun _ _ _ h => h) (Or.inl ⟨by rfl, fun w hSw => by go_simp⟩) (by assumption) ?_
        try simp only [Act.put, List.setIfInBounds_toArray, List.set_cons_zero, List.set_cons_succ]
        refine wpAnyH_take (i := 6) (oi := ⟨some 17, .load 42 (.tmp 16), 42, "files.go:54", #[⟨5, .data⟩], none⟩) (v := .int .u64 (hU : Int)) rfl (by kernel_rfl) (by kernel_rfl) (by kernel_rfl) (fun _ _ _ h => h) (Or.inl ⟨by rfl, fun w hSw => by go_simp⟩) (by assumption) ?_
        try simp only [Act.put, List.setIfInBounds_toArray, List.set_cons_zero, List.set_cons_succ]
        refine wpAnyH_ready (rs := [1]) (by kernel_rfl) (by simp) ?_
        refine AllReadyH.cons (o := ⟨some 12, .call ⟨.value (.func 19), #[.tmp 11], #[26]⟩, 42, "files.go:54", #[⟨0, .data⟩], none⟩) rfl (fun K hK => ?_) AllReadyH.nil
        go_simp
        refine (HNX.out wd HBW.out).mono ?_
        rintro e w2 ⟨rfl, B2⟩
        have H2 := Lib.hid (HBW.out.trans (B2.mono HBW.out.size))
        clear B2
        refine hK.out _ _ ((HC.out _ H2.out)) (fun hHeld => ?_)
        clear hK K
        try simp only [Act.put, List.setIfInBounds_toArray, List.set_cons_zero, List.set_cons_succ]
        skip
        refine wpAnyH_take (i := 7) (oi := ⟨some 18, .binOp .leq 42 (.tmp 12) (.tmp 17) 42, 4, "files.go:54", #[⟨1, .data⟩, ⟨6, .data⟩], none⟩) (v := .bool true) rfl (by kernel_rfl) (by kernel_rfl) (by kernel_rfl) (fun _ _ _ h => h) (Or.inl ⟨by rfl, fun w hSw => by have hz := HLE.out; go_simp⟩) (by assumption) ?_
        try simp only [Act.put, List.setIfInBounds_toArray, List.set_cons_zero, List.set_cons_succ]
        refine wpAnyH_done (by kernel_rfl) ?_ _
        try unfold NoPanic
        have h5 := HI.out.2.2.1.keep (kp_below H2.out T1)
        have r5 := h5.row
        have HH5 := Lib.hid h5
        unfold cC at r5
        obtain ⟨y0, y1, y2, y3, y4, y5, y6, y7, yf⟩ := row8 r5
        clear h5 r5 hHeld
        go_wp2
        go_ret
        have G := Shf.grown_set w2 p 6 (.slice none 0 0)
        have C9 := HH5.out.set 6 (.slice none 0 0) {c1 with vols := []} bA bc (.slice none 0 0) none rfl HH5.out.ba ⟨[], rfl, OwnO.nil w2 60 4, fun g h => (by cases h), fun x hx => (by cases hx), List.Pairwise.nil, fun g h => (by cases h), fun x hx => (by cases hx)⟩
        refine ⟨en, m1, {c1 with vols := []}, T1, rfl, ⟨c1, HI.out.1, by rw [HD.out]⟩, ?_, ⟨bA, bc, _, none, C9⟩, (HI.out.2.2.2.1.trans (kq_kp (kp_below H2.out T1))).trans (kq_set HH5.out.row HH5.out.lp _ _)⟩
        exact (HI.out.2.1.below H2.out).far (P := fun b => b = p) ⟨G.os, G.tape, G.output, G.size, fun b hlt hne => G.block b hlt (fun e => hne (by injection e))⟩ (fun b hT9 hP => hT9 (by rw [hP]; exact HH5.out.tp))
      · have HLE := Lib.hid hle
        have HD : Hid (decide (c1.next ≤ c1.hU) = false) := by show _ = _; rw [← hnx, ← hhU]; exact decide_eq_false hle
        clear hle hnx hhU
        go_upto_region 4 with (fail)
        have HBW := Lib.hid ((Below.refl wr.heap.size wr).drew)
        refine wp_region_noPanic ?_
        refine wp_region_held_drew (S := fun y : World => y.cell? ⟨p, 4, none⟩ = some (.int .u64 (hU : Int))) (by kernel_rfl) (HC.out _ HBW.out) (fun hHeld => ?_)
        generalize wr.drew = wd at *
        refine wpAnyH_take (i := 0) (oi := ⟨some 11, .move (.tmp 0), 26, "files.go:54", #[], none⟩) (v := .pointer (some ⟨p, 0, none⟩)) rfl (by kernel_rfl) (by kernel_rfl) (by kernel_rfl) (fun _ _ _ h => h) (Or.inl ⟨by rfl, fun w hSw => by go_simp⟩) (by assumption) ?_
        try simp only [Act.put, List.setIfInBounds_toArray, List.set_cons_zero, List.set_cons_succ]
        refine wpAnyH_take (i := 2) (oi := ⟨some 13, .move (.tmp 0), 26, "files.go:54", #[], none⟩) (v := .pointer (some ⟨p, 0, none⟩)) rfl (by kernel_rfl) (by kernel_rfl) (by kernel_rfl) (fun _ _ _ h => h) (Or.inl ⟨by rfl, fun w hSw => by go_simp⟩) (by assumption) ?_
        try simp only [Act.put, List.setIfInBounds_toArray, List.set_cons_zero, List.set_cons_succ]
        refine wpAnyH_take (i := 3) (oi := ⟨some 14, .nilCheck (.tmp 13), 0, "files.go:54", #[⟨2, .data⟩], none⟩) (v := .pointer (some ⟨p, 0, none⟩)) rfl (by kernel_rfl) (by kernel_rfl) (by kernel_rfl) (fun _ _ _ h => h) (Or.inl ⟨by rfl, fun w hSw => by go_simp⟩) (by assumption) ?_
        try simp only [Act.put, List.setIfInBounds_toArray, List.set_cons_zero, List.set_cons_succ]
        refine wpAnyH_take (i := 4) (oi := ⟨some 15, .fieldAddr 82 (.tmp 14) 2, 0, "files.go:54", #[⟨3, .data⟩], none⟩) (v := .pointer (some ⟨p, 2, none⟩)) rfl (by kernel_rfl) (by kernel_rfl) (by kernel_rfl) (fun _ _ _ h => h) (Or.inl ⟨by rfl, fun w hSw => by go_simp⟩) (by assumption) ?_
        try simp only [Act.put, List.setIfInBounds_toArray, List.set_cons_zero, List.set_cons_succ]
        refine wpAnyH_take (i := 5) (oi := ⟨some 16, .fieldAddr 45 (.tmp 15) 2, 0, "files.go:54", #[⟨4, .data⟩], none⟩) (v := .pointer (some ⟨p, 4, none⟩)) rfl (by kernel_rfl) (by kernel_rfl) (by kernel_rfl) (fun _ _ _ h => h) (Or.inl ⟨by rfl, fun w hSw => by go_simp⟩) (by assumption) ?_
        try simp only [Act.put, List.setIfInBounds_toArray, List.set_cons_zero, List.set_cons_succ]
        refine wpAnyH_take (i := 6) (oi := ⟨some 17, .load 42 (.tmp 16), 42, "files.go:54", #[⟨5, .data⟩], none⟩) (v := .int .u64 (hU : Int)) rfl (by kernel_rfl) (by kernel_rfl) (by kernel_rfl) (fun _ _ _ h => h) (Or.inl ⟨by rfl, fun w hSw => by go_simp⟩) (by assumption) ?_
        try simp only [Act.put, List.setIfInBounds_toArray, List.set_cons_zero, List.set_cons_succ]
        refine wpAnyH_ready (rs := [1]) (by kernel_rfl) (by simp) ?_
        refine AllReadyH.cons (o := ⟨some 12, .call ⟨.value (.func 19), #[.tmp 11], #[26]⟩, 42, "files.go:54", #[⟨0, .data⟩], none⟩) rfl (fun K hK => ?_) AllReadyH.nil
        go_simp
        refine (HNX.out wd HBW.out).mono ?_
        rintro e w2 ⟨rfl, B2⟩
        have H2 := Lib.hid (HBW.out.trans (B2.mono HBW.out.size))
        clear B2
        refine hK.out _ _ ((HC.out _ H2.out)) (fun hHeld => ?_)
        clear hK K
        try simp only [Act.put, List.setIfInBounds_toArray, List.set_cons_zero, List.set_cons_succ]
        skip
        refine wpAnyH_take (i := 7) (oi := ⟨some 18, .binOp .leq 42 (.tmp 12) (.tmp 17) 42, 4, "files.go:54", #[⟨1, .data⟩, ⟨6, .data⟩], none⟩) (v := .bool false) rfl (by kernel_rfl) (by kernel_rfl) (by kernel_rfl) (fun _ _ _ h => h) (Or.inl ⟨by rfl, fun w hSw => by have hz := HLE.out; go_simp⟩) (by assumption) ?_
        try simp only [Act.put, List.setIfInBounds_toArray, List.set_cons_zero, List.set_cons_succ]
        refine wpAnyH_done (by kernel_rfl) ?_ _
        try unfold NoPanic
        clear hHeld
        go_wp2
        go_ret
        exact ⟨en, m1, c1, T1, rfl, ⟨c1, HI.out.1, by rw [HD.out]⟩, HI.out.2.1.below H2.out, ⟨bA, bc, vv, gv, HI.out.2.2.1.keep (kp_below H2.out T1)⟩, HI.out.2.2.2.1.trans (kq_kp (kp_below H2.out T1))⟩
end Go.Proofs.YtdbhgkbmbbjpdaaGreatDoor.Chr
