/- All volumes out of their files. What takeVolumes and tidy leave; both, one behind the other. Open. -/
import Derived.Test.YtdbhgkbmbbjpdaaGreatDoorNw
namespace Go.Proofs.YtdbhgkbmbbjpdaaGreatDoor.Chr
variable {lo : Nat}
open Go.ChangeShapes Go.WideShapes Go.ChangeAt Go.RowKit
open Shf (S str)
open Coin (Rd Row Own sz coin got Pur takeV endV CoinSaid)
open Frm (pack err size kind cnt body noItem itemV OneSaid)
set_option maxRecDepth 8000
set_option linter.unusedVariables false
open Shf (Tag Ext Rep M RdN act_now act_done)
def TvsN : Nat → CD → M → Nat → M → CD → Prop
  | 0, c, m, e, m', c' => TvM c m false e m' c'
  | n + 1, c, m, e, m', c' => ∃ e1 m1 c1, TvM c m true e1 m1 c1 ∧ TvsN n c1 m1 e m' c'
def Tvs (c : CD) (m : M) (e : Nat) (m' : M) (c' : CD) : Prop := ∃ n, TvsN n c m e m' c'
theorem Tvs.stop {c : CD} {m : M} {e : Nat} {m' : M} {c' : CD} (h : TvM c m false e m' c') : Tvs c m e m' c' := ⟨0, h⟩
theorem Tvs.more {c : CD} {m : M} {e : Nat} {m1 : M} {c1 : CD} {e' : Nat} {m' : M} {c' : CD} (h : TvM c m true e m1 c1) (t : Tvs c1 m1 e' m' c') : Tvs c m e' m' c' := by
  obtain ⟨n, t⟩ := t
  exact ⟨n + 1, e, m1, c1, h, t⟩
theorem act_fallen (m : M) (h : m.fallen = true) : m.act.fallen = true := by
  unfold Shf.M.act
  rw [if_pos h]
  exact h
def TksM (c : CD) (m : M) (e : Nat) (m' : M) (c' : CD) : Prop := ∃ c1, Tvs c m e m' c1 ∧ c' = (match decide (c1.next ≤ c1.hU) with | true => {c1 with vols := []} | false => c1)
theorem chain_len (l : S) : ∀ (xs : List Nat) (a b : Nat), Frm.chain l a xs b → a + xs.length ≤ b
  | [], a, b, h => Nat.le_of_eq h
  | x :: xs, a, b, h => by
    obtain ⟨_, _, _, h4⟩ := h
    have := chain_len l xs _ b h4
    have h5 : 1 ≤ size (l.drop a) := by unfold Frm.size; omega
    simp only [List.length_cons]
    omega
theorem volIs_len {l : S} {d : VolD} (h : VolIs l d) : d.its.length ≤ l.length := by
  obtain ⟨ps, b, e, h1, h2, _, _, rfl⟩ := h
  have h3 := chain_len l _ _ _ h1
  have h4 := (Frm.chain_le l _ 0 b (Nat.zero_le _) h1).2
  simp only [List.length_cons] at h3
  show (ps.map (itAt l)).length ≤ _
  rw [List.length_map]
  omega
theorem readP_cut (m : M) (s t : S) (n : Int) : ((m.cut s n).readP t).length ≤ (m.readP t).length ∨ ∃ u, ((m.cut s n).readP t).length ≤ u ∧ u = (m.readP t).length := by
  left
  have a := act_now m
  have hfall : (m.act).fallen = false → m.fallen = false := fun h => by
    have := act_fallen m
    cases hm : m.fallen with
    | false => rfl
    | true => rw [this hm] at h; cases h
  have key : ∀ mm : M, mm.now = m.now → (mm.fallen = false → m.fallen = false) → (∀ b, (mm.fl b).1.length ≤ (m.fl b).1.length) → (mm.readP t).length ≤ (m.readP t).length := fun mm h1 h2 h3 => by
    unfold Shf.M.readP
    cases hf : mm.fallen with
    | true => simp
    | false =>
      rw [h2 hf, h1]
      simp only [Bool.false_eq_true, if_false]
      cases hg : Shf.get m.now t with
      | none => simp
      | some b => exact h3 b
  unfold Shf.M.cut
  split
  · exact key _ a.1 hfall (fun b => by rw [a.2.2.2.1]; exact Nat.le_refl _)
  · split
    · exact key _ a.1 hfall (fun b => by rw [a.2.2.2.1]; exact Nat.le_refl _)
    · refine key _ a.1 hfall (fun b => ?_)
      show (if b = _ then _ else _ : S × Nat).1.length ≤ _
      split
      · rename_i h; rw [h]; simp only [List.length_take]; omega
      · exact Nat.le_refl _
theorem readE_cut (m : M) (s t : S) (n : Int) (h : m.readE t ≠ 0) : (m.cut s n).readE t ≠ 0 := by
  have a := act_now m
  have key : ∀ mm : M, mm.now = m.now → (m.fallen = true → mm.fallen = true) → mm.readE t ≠ 0 := fun mm h1 h2 => by
    unfold Shf.M.readE at h ⊢
    cases hf : mm.fallen with
    | true => simp
    | false =>
      have hf2 : m.fallen = false := by
        cases hm : m.fallen with
        | false => rfl
        | true => rw [h2 hm] at hf; cases hf
      rw [hf2] at h
      rw [h1]
      simpa using h
  unfold Shf.M.cut
  split
  · exact key _ a.1 (act_fallen m)
  · split
    · exact key _ a.1 (act_fallen m)
    · exact key _ a.1 (act_fallen m)
structure TvI (c : CD) (m : M) : Prop where
  sm : c.Small
  no : c.nextNo ≤ 99
  nx : c.next + (99 - c.nextNo) * 900000 ≤ 500000000
  ln : c.vols.length + (99 - c.nextNo) ≤ 500
  dn : m.done + (99 - c.nextNo) ≤ 700000
  fl : ∀ s, (m.readP s).length ≤ 900000
  la : m.readE (vName 99) ≠ 0
  hv : ∀ d ∈ c.vols, d.no < 100
theorem TvI.step {c : CD} {m : M} (I : TvI c m) {ok : Bool} {e : Nat} {m1 : M} {c1 : CD} (h : TvM c m ok e m1 c1) : (c1 = c ∨ ∃ d, c1 = {c with vols := c.vols ++ [d]}) ∧ c1.Small ∧ (ok = true → TvI c1 m1 ∧ c1.vols.length = c.vols.length + 1) ∧ c1.vols.length ≤ 500 ∧ (∀ d ∈ c1.vols, d.no < 100) ∧ c1.next ≤ 500900000 := by
  have ln := I.ln
  have nx := I.nx
  rcases h with ⟨_, rfl, _, rfl, rfl⟩ | ⟨_, _, rfl, _, rfl, rfl⟩ | ⟨h0, d, h1, h2, h3, h4, h5, rfl, h6, h7⟩
  · exact ⟨Or.inl rfl, I.sm, (fun h => by cases h), by omega, I.hv, by omega⟩
  · exact ⟨Or.inl rfl, I.sm, (fun h => by cases h), by omega, I.hv, by omega⟩
  · have hno : c.nextNo < 99 := by
      rcases Nat.lt_or_ge c.nextNo 99 with h | h
      · exact h
      · have e9 : c.nextNo = 99 := by have := I.no; omega
        rw [e9] at h0
        exact absurd h0 I.la
    have hlen := volIs_len h1
    have hfl := I.fl (vName c.nextNo)
    have hgl : (c.vols ++ [d]).getLast? = some d := by simp
    have e1 : ({c with vols := c.vols ++ [d]} : CD).nextNo = c.nextNo + 1 := by unfold CD.nextNo; rw [hgl]; show d.no + 1 = c.nextNo + 1; rw [h3]
    have e2 : ({c with vols := c.vols ++ [d]} : CD).next = d.first + d.its.length := by unfold CD.next; rw [hgl]; rfl
    have hfi : d.first ≤ c.next := by
      unfold CD.follows at h4
      split at h4
      · exact of_decide_eq_true h4
      · exact Nat.le_of_eq (of_decide_eq_true h4)
    have el : ({c with vols := c.vols ++ [d]} : CD).vols.length = c.vols.length + 1 := by show (c.vols ++ [d]).length = _; simp
    have hmul : (99 - c.nextNo) * 900000 = (99 - (c.nextNo + 1)) * 900000 + 900000 := by omega
    have hv2 : ∀ x ∈ c.vols ++ [d], x.no < 100 := fun x hx => by
      rcases List.mem_append.1 hx with hx | hx
      · exact I.hv x hx
      · rw [List.mem_singleton.1 hx, h3]; omega
    have sm2 : ({c with vols := c.vols ++ [d]} : CD).Small := by
      refine ⟨I.sm.hF, I.sm.hU, by rw [el]; omega, fun x hx => ?_⟩
      rcases List.mem_append.1 hx with hx | hx
      · exact I.sm.v x hx
      · rw [List.mem_singleton.1 hx]
        exact ⟨by omega, by omega, by omega, by omega⟩
    refine ⟨Or.inr ⟨d, rfl⟩, sm2, fun _ => ⟨⟨sm2, by rw [e1]; omega, by rw [e1, e2]; omega, by rw [el, e1]; omega, ?_, ?_, ?_, hv2⟩, el⟩, by rw [el]; omega, hv2, by rw [e2]; omega⟩
    · rw [e1]
      have dn := I.dn
      rcases h7 with ⟨_, _, rfl⟩ | ⟨_, _, rfl⟩
      · have := sm_cut m (vName c.nextNo) (d.size : Int); omega
      · omega
    · intro s
      rcases h7 with ⟨_, _, rfl⟩ | ⟨_, _, rfl⟩
      · rcases readP_cut m (vName c.nextNo) s (d.size : Int) with h | ⟨u, h, h'⟩
        · exact Nat.le_trans h (I.fl s)
        · exact Nat.le_trans h (h' ▸ I.fl s)
      · exact I.fl s
    · rcases h7 with ⟨_, _, rfl⟩ | ⟨_, _, rfl⟩
      · exact readE_cut m _ _ _ I.la
      · exact I.la
def lenAt (w : World) (p : Nat) : Nat := match w.cell? ⟨p, 6, none⟩ with
  | some (.slice _ n _) => n
  | _ => 0
theorem CAt.lenAt {w : World} {T : Nat → Tag} {p q : Nat} {c : CD} (h : CAt lo w T p q c) : Chr.lenAt w p = c.vols.length := by
  obtain ⟨bA, bc, vv, gv, h⟩ := h
  obtain ⟨A, cap, rfl⟩ := h.nil
  unfold Chr.lenAt
  rw [(row8 h.row).2.2.2.2.2.2.1]
def TvL (lo : Nat) (w : World) (T : Nat → Tag) (p q : Nat) (m : M) (c : CD) (wr : World) : Prop := ∃ m1 c1 T1, (∀ e m' c', Tvs c1 m1 e m' c' → Tvs c m e m' c') ∧ TvI c1 m1 ∧ c1.hU = c.hU ∧ Rep wr T1 q m1 ∧ CAt lo wr T1 p q c1 ∧ Kq lo w T wr T1
def TvD (lo : Nat) (w : World) (T : Nat → Tag) (p q : Nat) (m : M) (c : CD) (e : Nat) (wr : World) : Prop := ∃ m1 c1 T1, Tvs c m e m1 c1 ∧ c1.Small ∧ c1.hU = c.hU ∧ Rep wr T1 q m1 ∧ CAt lo wr T1 p q c1 ∧ Kq lo w T wr T1
set_option maxHeartbeats 4000000 in
theorem takeVs_any (w : World) (T : Nat → Tag) (p q : Nat) (m : M) (c : CD) (R : Rep w T q m) (h : CAt lo w T p q c) (I : TvI c m) :
    Calls Tryz.prog 42 #[.pointer (some ⟨p, 0, none⟩)] w fun e w' => ∃ (en : Nat) (m' : M) (c' : CD) (T' : Nat → Tag), e = .returned (.int .i64 (en : Int)) ∧ TksM c m en m' c' ∧ Rep w' T' q m' ∧ CAt lo w' T' p q c' ∧ Kq lo w T w' T' := by
  have HS0 : Hid (TvL lo w T p q m c w) := ⟨m, c, T, fun _ _ _ h => h, I, rfl, R, h, kq_kp (Kp.refl w T)⟩
  clear R h I
  go_enter Tryz.func42, Tryz.ntmps42
  go_wp2
  go_loopw [3, 4] (fun mo ev wr => (mo = .bool true ∧ (∃ en : Nat, ev = .int .i64 (en : Int)) ∧ Hid (TvL lo w T p q m c wr)) ∨ (mo = .bool false ∧ ∃ en : Nat, ev = .int .i64 (en : Int) ∧ Hid (TvD lo w T p q m c en wr))) (fun mo ev wr => match mo with | .bool true => 1001 - lenAt wr p | _ => 0)
  case atStart => exact Or.inl ⟨rfl, ⟨0, rfl⟩, HS0⟩
  case round =>
    clear HS0
    rcases hrel with ⟨rfl, ⟨en, rfl⟩, HR⟩ | ⟨rfl, en, rfl, HR⟩
    · obtain ⟨m1, c1, T1, hT, I1, hU1, R1, C1, K1⟩ := HR.out
      have hln := C1.lenAt
      have c71 := takeV_any wr T1 p q m1 c1 R1 C1 I1.sm (by have := I1.dn; omega) (by have := I1.no; omega) (I1.fl _)
      have HI := Lib.hid (And.intro hT (And.intro I1 (And.intro hU1 (And.intro K1 hln))))
      clear hT I1 hU1 R1 C1 K1 hln HR
      unfold TvSaid at c71
      go_wp2_with (go_at_call 71; (with_reducible refine c71.mono ?_); rintro e w2 ⟨ok, e2, m2, c2, T2, rfl, hx⟩; have H2 := Lib.hid hx; clear hx c71)
      go_roundw
      case rel =>
        have st := HI.out.2.1.step H2.out.1
        have hUc : c2.hU = c.hU := by rcases st.1 with h | ⟨d, h⟩ <;> rw [h] <;> exact HI.out.2.2.1
        cases ok with
        | true => exact Or.inl ⟨rfl, ⟨e2, rfl⟩, m2, c2, T2, fun e m' c' ht => HI.out.1 _ _ _ (.more H2.out.1 ht), (st.2.2.1 rfl).1, hUc, H2.out.2.1, H2.out.2.2.1, HI.out.2.2.2.1.trans H2.out.2.2.2⟩
        | false => exact Or.inr ⟨rfl, e2, rfl, m2, c2, T2, HI.out.1 _ _ _ (.stop H2.out.1), st.2.1, hUc, H2.out.2.1, H2.out.2.2.1, HI.out.2.2.2.1.trans H2.out.2.2.2⟩
      case measure =>
        have st := HI.out.2.1.step H2.out.1
        have h1 := HI.out.2.2.2.2
        have h2 := H2.out.2.2.1.lenAt
        have h3 := HI.out.2.1.ln
        cases ok with
        | true =>
          have := (st.2.2.1 rfl).2
          show 1001 - lenAt w2 p < 1001 - lenAt wr p
          omega
        | false =>
          show 0 < 1001 - lenAt wr p
          omega
    · obtain ⟨m1, c1, T1, hT, S1, hU1, R1, C1, K1⟩ := HR.out
      obtain ⟨nx, hnx⟩ : ∃ x, x = c1.next := ⟨_, rfl⟩
      obtain ⟨hU, hhU⟩ : ∃ x, x = c1.hU := ⟨_, rfl⟩
      have HNX : Hid (∀ y, Below wr.heap.size wr y → Calls Tryz.prog 19 #[.pointer (some ⟨p, 0, none⟩)] y fun e w' => e = .returned (.int .u64 (nx : Nat)) ∧ Below y.heap.size y w') := fun y hy => by
        rw [hnx]
        exact next_any y T1 p q c1 (C1.keep (kp_below hy T1)) S1
      have hC1 := C1
      obtain ⟨bA, bc, vv, gv, hC⟩ := hC1
      have HC : Hid (∀ y, Below wr.heap.size wr y → y.cell? ⟨p, 4, none⟩ = some (.int .u64 (hU : Int))) := fun y hy => by
        rw [hhU]
        exact (row8 ((hy.block p (Array.getElem?_eq_some_iff.1 hC.row).1).trans hC.row)).2.2.2.2.1
      have HI := Lib.hid (And.intro hT (And.intro R1 (And.intro hC (And.intro K1 (And.intro hnx hhU)))))
      clear hT S1 hU1 R1 C1 K1 hC HR
      by_cases hle : nx ≤ hU
      · have HLE := Lib.hid hle
        have HD : Hid (decide (c1.next ≤ c1.hU) = true) := by show _ = _; rw [← hnx, ← hhU]; exact decide_eq_true hle
        clear hle hnx hhU
        go_upto_region 4 with (fail)
        have HBW := Lib.hid ((Below.refl wr.heap.size wr).drew)
        refine wp_region_noPanic ?_
        refine wp_region_held_drew (S := fun y : World => y.cell? ⟨p, 4, none⟩ = some (.int .u64 (hU : Int))) (by kernel_rfl) (HC.out _ HBW.out) (fun hHeld => ?_)
        generalize wr.drew = wd at *
        refine wpAnyH_take (i := 0) (oi := ⟨some 11, .move (.tmp 0), 26, "files.go:54", #[], none⟩) (v := .pointer (some ⟨p, 0, none⟩)) rfl (by kernel_rfl) (by kernel_rfl) (by kernel_rfl) (fun _ _ _ h => h) (Or.inl ⟨by rfl, fun w hSw => by go_simp⟩) (by assumption) ?_
        try simp only [Act.put, stA, stB, stC]
        refine wpAnyH_take (i := 2) (oi := ⟨some 13, .move (.tmp 0), 26, "files.go:54", #[], none⟩) (v := .pointer (some ⟨p, 0, none⟩)) rfl (by kernel_rfl) (by kernel_rfl) (by kernel_rfl) (fun _ _ _ h => h) (Or.inl ⟨by rfl, fun w hSw => by go_simp⟩) (by assumption) ?_
        try simp only [Act.put, stA, stB, stC]
        refine wpAnyH_take (i := 3) (oi := ⟨some 14, .nilCheck (.tmp 13), 0, "files.go:54", #[⟨2, .data⟩], none⟩) (v := .pointer (some ⟨p, 0, none⟩)) rfl (by kernel_rfl) (by kernel_rfl) (by kernel_rfl) (fun _ _ _ h => h) (Or.inl ⟨by rfl, fun w hSw => by go_simp⟩) (by assumption) ?_
        try simp only [Act.put, stA, stB, stC]
        refine wpAnyH_take (i := 4) (oi := ⟨some 15, .fieldAddr 82 (.tmp 14) 2, 0, "files.go:54", #[⟨3, .data⟩], none⟩) (v := .pointer (some ⟨p, 2, none⟩)) rfl (by kernel_rfl) (by kernel_rfl) (by kernel_rfl) (fun _ _ _ h => h) (Or.inl ⟨by rfl, fun w hSw => by go_simp⟩) (by assumption) ?_
        try simp only [Act.put, stA, stB, stC]
        refine wpAnyH_take (i := 5) (oi := ⟨some 16, .fieldAddr 45 (.tmp 15) 2, 0, "files.go:54", #[⟨4, .data⟩], none⟩) (v := .pointer (some ⟨p, 4, none⟩)) rfl (by kernel_rfl) (by kernel_rfl) (by kernel_rfl) (fun _ _ _ h => h) (Or.inl ⟨by rfl, fun w hSw => by go_simp⟩) (by assumption) ?_
        try simp only [Act.put, stA, stB, stC]
        refine wpAnyH_take (i := 6) (oi := ⟨some 17, .load 42 (.tmp 16), 42, "files.go:54", #[⟨5, .data⟩], none⟩) (v := .int .u64 (hU : Int)) rfl (by kernel_rfl) (by kernel_rfl) (by kernel_rfl) (fun _ _ _ h => h) (Or.inl ⟨by rfl, fun w hSw => by go_simp⟩) (by assumption) ?_
        try simp only [Act.put, stA, stB, stC]
        refine wpAnyH_ready (rs := [1]) (by kernel_rfl) (by simp) ?_
        refine AllReadyH.cons (o := ⟨some 12, .call ⟨.value (.func 19), #[.tmp 11], #[26]⟩, 42, "files.go:54", #[⟨0, .data⟩], none⟩) rfl (fun K hK => ?_) AllReadyH.nil
        go_simp
        refine (HNX.out wd HBW.out).mono ?_
        rintro e w2 ⟨rfl, B2⟩
        have H2 := Lib.hid (HBW.out.trans (B2.mono HBW.out.size))
        clear B2
        refine hK.out _ _ ((HC.out _ H2.out)) (fun hHeld => ?_)
        clear hK K
        try simp only [Act.put, stA, stB, stC]
        skip
        refine wpAnyH_take (i := 7) (oi := ⟨some 18, .binOp .leq 42 (.tmp 12) (.tmp 17) 42, 4, "files.go:54", #[⟨1, .data⟩, ⟨6, .data⟩], none⟩) (v := .bool true) rfl (by kernel_rfl) (by kernel_rfl) (by kernel_rfl) (fun _ _ _ h => h) (Or.inl ⟨by rfl, fun w hSw => by have hz := HLE.out; go_simp⟩) (by assumption) ?_
        try simp only [Act.put, stA, stB, stC]
        refine wpAnyH_done (by kernel_rfl) ?_ _
        try unfold NoPanic
        have h5 := HI.out.2.2.1.keep (kp_below H2.out T1)
        have r5 := h5.row
        have HH5 := Lib.hid h5
        unfold cC at r5
        obtain ⟨y0, y1, y2, y3, y4, y5, y6, y7, yf⟩ := row8 r5
        clear h5 r5 hHeld
        go_wp2
        go_ret
        have G := Shf.grown_set w2 p 6 (.slice none 0 0)
        have C9 := HH5.out.set 6 (.slice none 0 0) {c1 with vols := []} bA bc (.slice none 0 0) none rfl HH5.out.ba ⟨[], rfl, OwnO.nil w2 60 4, fun g h => (by cases h), fun x hx => (by cases hx), List.Pairwise.nil, fun g h => (by cases h), fun x hx => (by cases hx)⟩
        refine ⟨en, m1, {c1 with vols := []}, T1, rfl, ⟨c1, HI.out.1, by rw [HD.out]⟩, ?_, ⟨bA, bc, _, none, C9⟩, (HI.out.2.2.2.1.trans (kq_kp (kp_below H2.out T1))).trans (kq_set HH5.out.row HH5.out.lp _ _)⟩
        exact (HI.out.2.1.below H2.out).far (P := fun b => b = p) ⟨G.os, G.tape, G.output, G.size, fun b hlt hne => G.block b hlt (fun e => hne (by injection e))⟩ (fun b hT9 hP => hT9 (by rw [hP]; exact HH5.out.tp))
      · have HLE := Lib.hid hle
        have HD : Hid (decide (c1.next ≤ c1.hU) = false) := by show _ = _; rw [← hnx, ← hhU]; exact decide_eq_false hle
        clear hle hnx hhU
        go_upto_region 4 with (fail)
        have HBW := Lib.hid ((Below.refl wr.heap.size wr).drew)
        refine wp_region_noPanic ?_
        refine wp_region_held_drew (S := fun y : World => y.cell? ⟨p, 4, none⟩ = some (.int .u64 (hU : Int))) (by kernel_rfl) (HC.out _ HBW.out) (fun hHeld => ?_)
        generalize wr.drew = wd at *
        refine wpAnyH_take (i := 0) (oi := ⟨some 11, .move (.tmp 0), 26, "files.go:54", #[], none⟩) (v := .pointer (some ⟨p, 0, none⟩)) rfl (by kernel_rfl) (by kernel_rfl) (by kernel_rfl) (fun _ _ _ h => h) (Or.inl ⟨by rfl, fun w hSw => by go_simp⟩) (by assumption) ?_
        try simp only [Act.put, stA, stB, stC]
        refine wpAnyH_take (i := 2) (oi := ⟨some 13, .move (.tmp 0), 26, "files.go:54", #[], none⟩) (v := .pointer (some ⟨p, 0, none⟩)) rfl (by kernel_rfl) (by kernel_rfl) (by kernel_rfl) (fun _ _ _ h => h) (Or.inl ⟨by rfl, fun w hSw => by go_simp⟩) (by assumption) ?_
        try simp only [Act.put, stA, stB, stC]
        refine wpAnyH_take (i := 3) (oi := ⟨some 14, .nilCheck (.tmp 13), 0, "files.go:54", #[⟨2, .data⟩], none⟩) (v := .pointer (some ⟨p, 0, none⟩)) rfl (by kernel_rfl) (by kernel_rfl) (by kernel_rfl) (fun _ _ _ h => h) (Or.inl ⟨by rfl, fun w hSw => by go_simp⟩) (by assumption) ?_
        try simp only [Act.put, stA, stB, stC]
        refine wpAnyH_take (i := 4) (oi := ⟨some 15, .fieldAddr 82 (.tmp 14) 2, 0, "files.go:54", #[⟨3, .data⟩], none⟩) (v := .pointer (some ⟨p, 2, none⟩)) rfl (by kernel_rfl) (by kernel_rfl) (by kernel_rfl) (fun _ _ _ h => h) (Or.inl ⟨by rfl, fun w hSw => by go_simp⟩) (by assumption) ?_
        try simp only [Act.put, stA, stB, stC]
        refine wpAnyH_take (i := 5) (oi := ⟨some 16, .fieldAddr 45 (.tmp 15) 2, 0, "files.go:54", #[⟨4, .data⟩], none⟩) (v := .pointer (some ⟨p, 4, none⟩)) rfl (by kernel_rfl) (by kernel_rfl) (by kernel_rfl) (fun _ _ _ h => h) (Or.inl ⟨by rfl, fun w hSw => by go_simp⟩) (by assumption) ?_
        try simp only [Act.put, stA, stB, stC]
        refine wpAnyH_take (i := 6) (oi := ⟨some 17, .load 42 (.tmp 16), 42, "files.go:54", #[⟨5, .data⟩], none⟩) (v := .int .u64 (hU : Int)) rfl (by kernel_rfl) (by kernel_rfl) (by kernel_rfl) (fun _ _ _ h => h) (Or.inl ⟨by rfl, fun w hSw => by go_simp⟩) (by assumption) ?_
        try simp only [Act.put, stA, stB, stC]
        refine wpAnyH_ready (rs := [1]) (by kernel_rfl) (by simp) ?_
        refine AllReadyH.cons (o := ⟨some 12, .call ⟨.value (.func 19), #[.tmp 11], #[26]⟩, 42, "files.go:54", #[⟨0, .data⟩], none⟩) rfl (fun K hK => ?_) AllReadyH.nil
        go_simp
        refine (HNX.out wd HBW.out).mono ?_
        rintro e w2 ⟨rfl, B2⟩
        have H2 := Lib.hid (HBW.out.trans (B2.mono HBW.out.size))
        clear B2
        refine hK.out _ _ ((HC.out _ H2.out)) (fun hHeld => ?_)
        clear hK K
        try simp only [Act.put, stA, stB, stC]
        skip
        refine wpAnyH_take (i := 7) (oi := ⟨some 18, .binOp .leq 42 (.tmp 12) (.tmp 17) 42, 4, "files.go:54", #[⟨1, .data⟩, ⟨6, .data⟩], none⟩) (v := .bool false) rfl (by kernel_rfl) (by kernel_rfl) (by kernel_rfl) (fun _ _ _ h => h) (Or.inl ⟨by rfl, fun w hSw => by have hz := HLE.out; go_simp⟩) (by assumption) ?_
        try simp only [Act.put, stA, stB, stC]
        refine wpAnyH_done (by kernel_rfl) ?_ _
        try unfold NoPanic
        clear hHeld
        go_wp2
        go_ret
        exact ⟨en, m1, c1, T1, rfl, ⟨c1, HI.out.1, by rw [HD.out]⟩, HI.out.2.1.below H2.out, ⟨bA, bc, vv, gv, HI.out.2.2.1.keep (kp_below H2.out T1)⟩, HI.out.2.2.2.1.trans (kq_kp (kp_below H2.out T1))⟩
end Go.Proofs.YtdbhgkbmbbjpdaaGreatDoor.Chr
namespace Go.Proofs.YtdbhgkbmbbjpdaaGreatDoor.Chr
variable {lo : Nat}
open Go.ChangeShapes Go.WideShapes Go.ChangeAt Go.RowKit
open Shf (S str)
open Coin (Rd Row Own sz coin got Pur takeV endV CoinSaid)
open Frm (pack err size kind cnt body noItem itemV OneSaid)
set_option maxRecDepth 8000
set_option linter.unusedVariables false
open Shf (Tag Ext Rep M RdN act_now act_done)
theorem nms_cut {m : M} {k : Nat} (h : Nms m k) (s : S) (n : Int) : Nms (m.cut s n) k := by
  have a := nms_act h
  unfold Shf.M.cut
  split
  · exact a
  · split <;> exact a
theorem tvs_inv : ∀ (n : Nat) (c : CD) (m : M) (e : Nat) (m' : M) (c' : CD), TvI c m → TvsN n c m e m' c' → c'.Small ∧ (∀ d ∈ c'.vols, d.no < 100) ∧ c'.vols.length ≤ 500 ∧ c'.next ≤ 500900000 ∧ (∃ l, c' = {c with vols := c.vols ++ l}) ∧ m'.done ≤ m.done + (100 - c.nextNo) ∧ m'.room = m.room ∧ ∀ k, Nms m k → Nms m' k
  | n, c, m, e, m', c', I, h => by
    have fin : ∀ {ok : Bool} {e : Nat} {m' : M} {c' : CD}, TvM c m ok e m' c' → m'.done ≤ m.done + 1 ∧ m'.room = m.room ∧ (∀ k, Nms m k → Nms m' k) ∧ ∃ l, c' = {c with vols := c.vols ++ l} := fun {ok e m' c'} h => by
      have h0 : ∃ l, c = {c with vols := c.vols ++ l} := ⟨[], by simp⟩
      rcases h with ⟨_, _, _, rfl, rfl⟩ | ⟨_, _, _, _, rfl, rfl⟩ | ⟨_, d, _, _, _, _, _, rfl, _, ⟨_, _, rfl⟩ | ⟨_, _, rfl⟩⟩
      · exact ⟨Nat.le_succ _, rfl, fun _ h => h, h0⟩
      · exact ⟨Nat.le_succ _, rfl, fun _ h => h, h0⟩
      · exact ⟨(sm_cut m _ _).1, (sm_cut m _ _).2, fun k h => nms_cut h _ _, [d], rfl⟩
      · exact ⟨Nat.le_succ _, rfl, fun _ h => h, [d], rfl⟩
    have hno := I.no
    match n, h with
    | 0, h =>
      obtain ⟨_, s2, _, s4, s5, s6⟩ := I.step h
      obtain ⟨f1, f2, f3, f4⟩ := fin h
      exact ⟨s2, s5, s4, s6, f4, by omega, f2, f3⟩
    | n + 1, ⟨e1, m1, c1, h1, h2⟩ =>
      obtain ⟨_, s2, s3, s4, s5, s6⟩ := I.step h1
      obtain ⟨f1, f2, f3, l, f4⟩ := fin h1
      have I1 := (s3 rfl).1
      have hn1 : c1.nextNo = c.nextNo + 1 := by
        rcases h1 with ⟨_, h, _⟩ | ⟨_, _, h, _⟩ | ⟨_, d, _, _, h3, _, _, rfl, _⟩
        · cases h
        · cases h
        · have hgl : (c.vols ++ [d]).getLast? = some d := by simp
          unfold CD.nextNo
          rw [hgl]
          show d.no + 1 = c.nextNo + 1
          rw [h3]
      obtain ⟨r1, r2, r3, r4, ⟨l2, r5⟩, r6, r7, r8⟩ := tvs_inv n c1 m1 e m' c' I1 h2
      have := I1.no
      exact ⟨r1, r2, r3, r4, ⟨l ++ l2, by rw [r5, f4]; simp [List.append_assoc]⟩, by omega, r7.trans f2, fun k h => r8 k (f3 k h)⟩
theorem tks_inv {c : CD} {m : M} {e : Nat} {m' : M} {c' : CD} (I : TvI c m) (h : TksM c m e m' c') : c'.Small ∧ (∀ d ∈ c'.vols, d.no < 100) ∧ c'.vols.length ≤ 500 ∧ (∃ l, c' = {c with vols := l}) ∧ m'.done ≤ m.done + 100 ∧ m'.room = m.room ∧ ∀ k, Nms m k → Nms m' k := by
  obtain ⟨c1, ⟨n, ht⟩, rfl⟩ := h
  obtain ⟨r1, r2, r3, r4, ⟨l2, r5⟩, r6, r7, r8⟩ := tvs_inv n c m e m' c1 I ht
  split
  · exact ⟨⟨r1.hF, r1.hU, Nat.zero_le _, fun d hd => by cases hd⟩, (fun d hd => by cases hd), Nat.zero_le _, ⟨[], by rw [r5]⟩, by omega, r7, r8⟩
  · exact ⟨r1, r2, r3, ⟨_, r5⟩, by omega, r7, r8⟩
theorem tidyL_inv (own : List S) : ∀ (l : List S) (m : M) (k : Nat), Nms m k → (tidyL own l m).2.done ≤ m.done + l.length ∧ (tidyL own l m).2.room = m.room ∧ Nms (tidyL own l m).2 (k + l.length)
  | [], m, k, h => ⟨Nat.le_refl _, rfl, h⟩
  | s :: l, m, k, h => by
    have sd := sm_delete m s
    have nd := nms_delete h s
    unfold tidyL
    simp only [List.length_cons]
    split
    · obtain ⟨a, b, c⟩ := tidyL_inv own l m k h
      exact ⟨by omega, b, nms_mono c (by omega)⟩
    · split
      · obtain ⟨a, b, c⟩ := tidyL_inv own l (m.delete s) (k + 1) nd
        exact ⟨by omega, b.trans sd.2, nms_mono c (by omega)⟩
      · exact ⟨by show (m.delete s).done ≤ _; omega, sd.2, nms_mono nd (by omega)⟩
theorem tidyM_inv (own : List S) (m : M) (k : Nat) (h : Nms m k) : (tidyM own m).2.done ≤ m.done + k + 1 ∧ (tidyM own m).2.room = m.room ∧ Nms (tidyM own m).2 (k + k) := by
  have hl := (nms_list h).1
  obtain ⟨a, b, c⟩ := tidyL_inv own m.list m k h
  unfold tidyM tidyEnd
  split
  · split
    · exact ⟨by show (tidyL own m.list m).2.done ≤ _; omega, b, nms_mono c (by omega)⟩
    · have sn := sm_names (tidyL own m.list m).2
      exact ⟨by show (Shf.M.names _).done ≤ _; omega, sn.2.trans b, nms_mono (nms_names c) (by omega)⟩
  · exact ⟨by omega, b, nms_mono c (by omega)⟩
def OtM (c : CD) (m : M) (e : Nat) (m' : M) (c' : CD) : Prop := ∃ e1 m1, TksM c m e1 m1 c' ∧ ((e1 ≠ 0 ∧ e = e1 ∧ m' = m1) ∨ (e1 = 0 ∧ e = (tidyM c'.own m1).1 ∧ m' = (tidyM c'.own m1).2))
theorem otM_inv {c : CD} {m : M} {e : Nat} {m' : M} {c' : CD} (I : TvI c m) (h : OtM c m e m' c') {k : Nat} (hk : Nms m k) : c'.Small ∧ (∀ d ∈ c'.vols, d.no < 100) ∧ c'.vols.length ≤ 500 ∧ (∃ l, c' = {c with vols := l}) ∧ m'.done ≤ m.done + 100 + k + 1 ∧ m'.room = m.room ∧ Nms m' (k + k) := by
  obtain ⟨e1, m1, ht, h⟩ := h
  obtain ⟨a1, a2, a3, a4, a5, a6, a7⟩ := tks_inv I ht
  rcases h with ⟨_, _, rfl⟩ | ⟨_, _, rfl⟩
  · exact ⟨a1, a2, a3, a4, by omega, a6, nms_mono (a7 k hk) (by omega)⟩
  · obtain ⟨b1, b2, b3⟩ := tidyM_inv c'.own m1 k (a7 k hk)
    exact ⟨a1, a2, a3, a4, by omega, b2.trans a6, b3⟩
theorem open_io (w : World) (T : Nat → Tag) (p q : Nat) (m : M) (c : CD) (w2 : World) (hw2 : w2 = w.alloc (.cells #[.func (.func 42) #[.pointer (some ⟨p, 0, none⟩)] #[], .func (.func 43) #[.pointer (some ⟨p, 0, none⟩)] #[]] 39)) (R : Rep w T q m) (h : CAt lo w T p q c) (I : TvI c m) (hB : c.hB < 100) (hms : Nms m 4000) :
    Calls Tryz.prog 41 #[.slice (some ⟨w.heap.size, 0, none⟩) 2 2] w2 fun e w' => ∃ en : Nat, e = .returned (.int .i64 (en : Int)) ∧ ∃ m3 c3 T3, OtM c m en m3 c3 ∧ Rep w' T3 q m3 ∧ CAt lo w' T3 p q c3 ∧ Kq lo w T w' T3 := by
  have B2 : Below w.heap.size w w2 := by rw [hw2]; exact (Below.refl _ _).alloc (Nat.le_refl _) _
  have N2 : w2.heap[w.heap.size]? = some (.cells #[.func (.func 42) #[.pointer (some ⟨p, 0, none⟩)] #[], .func (.func 43) #[.pointer (some ⟨p, 0, none⟩)] #[]] 39 (0, 0)) := by rw [hw2]; exact heap_alloc_new w _
  have tb : T w.heap.size = .none := rep_old R (Nat.le_refl _)
  refine io_42_43 w2 p w.heap.size (fun y => y = w2) (fun y => ∃ m1 c1 T1, TksM c m 0 m1 c1 ∧ Rep y T1 q m1 ∧ CAt lo y T1 p q c1 ∧ Kq lo w2 T y T1) _ rfl (fun y e => by rw [e]; exact N2) (fun y ⟨m1, c1, T1, _, _, _, K⟩ => (K.block _ (Array.getElem?_eq_some_iff.1 N2).1 tb (notTy N2 (by decide)) (notTy N2 (by decide)) (notTy N2 (by decide))).trans N2) (fun y e => ?_) (fun y ⟨m1, c1, T1, ht, R1, C1, K1⟩ => ?_)
  · rw [e]
    refine (takeVs_any w2 T p q m c (R.below B2) (h.keep (kp_below B2 T)) I).mono ?_
    rintro e w' ⟨en, m', c', T', rfl, ht, R', C', K'⟩
    refine ⟨en, rfl, fun h0 => ⟨m', c', T', by rw [h0] at ht; exact ht, R', C', K'⟩, fun h0 => ⟨m', c', T', ⟨en, m', ht, Or.inl ⟨h0, rfl, rfl⟩⟩, R', C', (kq_kp (kp_below B2 T)).trans K'⟩⟩
  · obtain ⟨a1, a2, a3, ⟨l, a4⟩, a5, a6, a7⟩ := tks_inv I ht
    have nl := nms_list (a7 4000 hms)
    have := I.dn
    refine (tidy_any y T1 p q m1 c1 R1 C1 a1 (by rw [a4]; exact hB) a2 (by omega) (by omega) nl.2).mono ?_
    rintro e w' ⟨T', rfl, R', X'⟩
    exact ⟨_, rfl, _, c1, T', ⟨0, m1, ht, Or.inr ⟨rfl, rfl, rfl⟩⟩, R', C1.keep (kp_ext X'), ((kq_kp (kp_below B2 T)).trans K1).trans (kq_kp (kp_ext X'))⟩
end Go.Proofs.YtdbhgkbmbbjpdaaGreatDoor.Chr
namespace Go.Proofs.YtdbhgkbmbbjpdaaGreatDoor.Chr
variable {lo : Nat}
open Go.ChangeShapes Go.WideShapes Go.ChangeAt Go.RowKit
open Shf (S str)
open Coin (Rd Row Own sz coin got Pur takeV endV CoinSaid)
open Frm (pack err size kind cnt body noItem itemV OneSaid)
set_option maxRecDepth 8000
set_option linter.unusedVariables false
open Shf (Tag Ext Rep M RdN)
open Coin (CoinOwn)
theorem idx_str : str idxN = ⟨#[105, 110, 100, 101, 120]⟩ := by rfl
theorem nob8 (q mo : Nat) : NoB #[.pointer (some ⟨q, 0, none⟩), .int .i64 (mo : Int), .int .u64 0, .int .u64 0, .int .u64 0, .slice none 0 0, .slice none 0 0, .bool false] := fun i b e => by
  match i, e with
  | 0, e => cases e
  | 1, e => cases e
  | 2, e => cases e
  | 3, e => cases e
  | 4, e => cases e
  | 5, e => cases e
  | 6, e => cases e
  | 7, e => cases e
  | n + 8, e => simp at e
def opV (en p : Nat) : Value := match en with
  | 0 => .pointer (some ⟨p, 0, none⟩)
  | _ + 1 => .pointer none
theorem opV_ne {en p : Nat} (h : en ≠ 0) : opV en p = .pointer none := by
  cases en with
  | zero => exact absurd rfl h
  | succ n => rfl
def OpenM (c0 : CD) (isNew : Bool) (m : M) (en : Nat) (m' : M) (c' : CD) : Prop := ∃ e1 m1, OtM c0 m e1 m1 c' ∧ ((isNew = true ∧ e1 = 0 ∧ WrM c'.own m1 idxN (headB 1 0 0) en m') ∨ (¬ (isNew = true ∧ e1 = 0) ∧ en = e1 ∧ m' = m1))
def OpSaid (lo : Nat) (w : World) (T : Nat → Tag) (q : Nat) (m : M) (c0 : CD) (isNew : Bool) (e : Ending) (w' : World) : Prop :=
  ∃ (p en : Nat) (m' : M) (c' : CD) (T' : Nat → Tag), e = .returned (.tuple #[opV en p, .int .i64 (en : Int)]) ∧ OpenM c0 isNew m en m' c' ∧ Rep w' T' q m' ∧ CAt w.heap.size w' T' p q c' ∧ Kq w.heap.size w T w' T' ∧ w.heap.size ≤ p
theorem head_new : hdOk (headB 1 0 0) = true ∧ whole (headB 1 0 0) = true ∧ valP (body (headB 1 0 0)) 0 = 1 ∧ valP (body (headB 1 0 0)) 1 = 0 ∧ valP (body (headB 1 0 0)) 2 = 0 ∧ (headB 1 0 0).length ≤ 1000 := by decide +kernel
set_option maxHeartbeats 4000000 in
theorem open_new (w : World) (T : Nat → Tag) (q : Nat) (m : M) (mo : Nat) (R : Rep w T q m) (he : m.readE idxN = 2) (I : TvI ⟨mo, 1, 0, 0, [], [], false⟩ m) (hms : Nms m 4000) (hd : m.done ≤ 600000) (hroom : -1000000000000 ≤ m.room) :
    Calls Tryz.prog 11 #[.pointer (some ⟨q, 0, none⟩), .int .i64 (mo : Int)] w (OpSaid w.heap.size w T q m ⟨mo, 1, 0, 0, [], [], false⟩ true) := by
  have c25 := Shf.read_rep w T q m idxN R (by decide)
  rw [he, idx_str] at c25
  have c38 : ∀ y, Calls Tryz.prog 38 #[.agg #[.int .u64 1, .int .u64 0, .int .u64 0]] y (CoinOwn y (headB 1 0 0)) := fun y => head_own y 1 0 0 (by decide) (by decide) (by decide)
  obtain ⟨hn, hhn⟩ : ∃ x, x = (headB 1 0 0).length := ⟨_, rfl⟩
  have HHL : Hid (hn = (headB 1 0 0).length ∧ hn ≤ 1000) := ⟨hhn, by rw [hhn]; exact head_new.2.2.2.2.2⟩
  obtain ⟨c0, hc0⟩ : ∃ x : CD, x = ⟨mo, 1, 0, 0, [], [], false⟩ := ⟨_, rfl⟩
  rw [← hc0] at I ⊢
  have HI := Lib.hid (And.intro I (And.intro (show c0.hB < 100 by rw [hc0]; show 0 < 100; decide) (And.intro hms (And.intro hd hroom))))
  have HR := Lib.hid R
  have HC0 := Lib.hid hc0
  have HTN : Hid (∀ b, w.heap.size ≤ b → T b = .none) := fun b hb => rep_old R hb
  have hcs : hdCs (whole (headB 1 0 0)) #[.pointer (some ⟨q, 0, none⟩), .int .i64 (mo : Int), .int .u64 0, .int .u64 0, .int .u64 0, .slice none 0 0, .slice none 0 0, .bool false] (headB 1 0 0) = #[.pointer (some ⟨q, 0, none⟩), .int .i64 (mo : Int), .int .u64 1, .int .u64 0, .int .u64 0, .slice none 0 0, .slice none 0 0, .bool false] := by
    have h := head_new
    rw [h.2.1]
    unfold hdCs setJ setJ setJ setJ
    rw [h.2.2.1, h.2.2.2.1, h.2.2.2.2.1]
    rfl
  have HCS := Lib.hid hcs
  clear R he I hms hd hroom hhn hc0 hcs
  go_enter Tryz.func11, Tryz.ntmps11
  go_upto_region 8 with (first
    | (go_at_call 25; (with_reducible refine c25.mono ?_); rintro e w1 ⟨v, rfl, hf, B1⟩; obtain ⟨A1, cc1, rfl, -, -, -⟩ := fresh_form hf; have HB1 := Lib.hid B1; clear hf B1 c25)
    | (go_at_call 38; (with_reducible refine (c38 _).mono ?_); rintro e w2 ⟨v2, rfl, O2, B2⟩; obtain ⟨IA, ic, rfl, -, -, -⟩ := O2.form; rw [← HHL.out.1] at O2 ⊢; have HO2 := Lib.hid (And.intro O2 (HB1.out.trans (B2.mono HB1.out.size))); clear O2 B2 c38))
  have N3' := heap_alloc_new w2 (.cells #[.pointer (some ⟨q, 0, none⟩), .int .i64 (mo : Int), .int .u64 0, .int .u64 0, .int .u64 0, .slice none 0 0, .slice none 0 0, .bool false] 82)
  have B3' : Below w2.heap.size w2 (w2.alloc (.cells #[.pointer (some ⟨q, 0, none⟩), .int .i64 (mo : Int), .int .u64 0, .int .u64 0, .int .u64 0, .slice none 0 0, .slice none 0 0, .bool false] 82)) := (Below.refl _ _).alloc (Nat.le_refl _) _
  generalize w2.alloc (.cells #[.pointer (some ⟨q, 0, none⟩), .int .i64 (mo : Int), .int .u64 0, .int .u64 0, .int .u64 0, .slice none 0 0, .slice none 0 0, .bool false] 82) = w3 at *
  obtain ⟨p, hp⟩ : ∃ x, x = w2.heap.size := ⟨_, rfl⟩
  rw [← hp] at N3' ⊢
  have HPS : Hid (w.heap.size ≤ p) := by show _ ≤ p; rw [hp]; exact HO2.out.2.size
  have p2 : PAt w2 T IA ic (headB 1 0 0) := pat_own (own_le HO2.out.1 HB1.out.size) HTN.out HHL.out.1
  have p3 := p2.below B3'
  have hrd : Rd w3 w3.heap.size IA (headB 1 0 0) := p3.rd
  have c39 := takeHead_any w3 p #[.pointer (some ⟨q, 0, none⟩), .int .i64 (mo : Int), .int .u64 0, .int .u64 0, .int .u64 0, .slice none 0 0, .slice none 0 0, .bool false] N3' rfl (nob8 q mo) IA hn ic (headB 1 0 0) HHL.out.1 (by have := HHL.out; omega) p3.2.1 p3.1 hrd
  rw [HCS.out, head_new.1] at c39
  have HB3 := Lib.hid (HO2.out.2.trans (B3'.mono HO2.out.2.size))
  have HP3 := Lib.hid (And.intro p3 (notTy N3' (t := 5) (by decide)))
  clear N3' B3' hp p2 p3 hrd
  have c40 : ∀ y, y.heap[p]? = some (.cells #[.pointer (some ⟨q, 0, none⟩), .int .i64 (mo : Int), .int .u64 1, .int .u64 0, .int .u64 0, .slice none 0 0, .slice none 0 0, .bool false] 82 (0, 0)) → Calls Tryz.prog 40 #[.pointer (some ⟨p, 0, none⟩)] y fun e w' => e = .returned (.bool true) ∧ y = w' := fun y hy => takeBase_none y p q mo 1 0 _ _ hy
  go_upto_region 10 with (first
    | (go_at_call 39; (with_reducible refine c39.mono ?_); rintro e w4 ⟨rfl, G4, N4⟩; have HG4 := Lib.hid G4; have HN4 := Lib.hid N4; have c40' := c40 w4 N4; clear G4 N4 c39 c40)
    | (go_at_call 40; (with_reducible refine c40'.mono ?_); rintro e wx ⟨rfl, rfl⟩; clear c40'))
  have hbel : Below w.heap.size w w4 := Coin.below_grown HB3.out HG4.out HPS.out
  have HX : Hid (Rep w4 T q m ∧ CAt w.heap.size w4 T p q c0 ∧ Kq w.heap.size w T w4 T) := ⟨HR.out.below hbel, ⟨none, 0, .slice none 0 0, none, by rw [HC0.out]; exact HN4.out, HTN.out p HPS.out, by rw [HC0.out]; exact ⟨fun _ => rfl, Nat.le_refl _, fun h => absurd h (Nat.lt_irrefl 0)⟩, by rw [HC0.out]; exact ⟨[], rfl, OwnO.nil w4 60 4, fun g h => (by cases h), fun x hx => (by cases hx), List.Pairwise.nil, fun g h => (by cases h), fun x hx => (by cases hx)⟩, HPS.out⟩, kq_kp (kp_below hbel T)⟩
  have HIX := Lib.hid (HP3.out.1.grown HG4.out HP3.out.2)
  clear hbel HP3
  generalize w4 = wx at *
  have c41 := open_io wx T p q m c0 _ rfl HX.out.1 HX.out.2.1 HI.out.1 HI.out.2.1 HI.out.2.2.1
  go_upto_region 11 with (go_at_call 41; (with_reducible refine c41.mono ?_); rintro e w5 ⟨en, rfl, m3, c3, T3, h3, R3, C3, K3⟩; have H3 := Lib.hid (And.intro h3 (And.intro R3 (And.intro C3 (And.intro (HX.out.2.2.trans K3) K3)))); clear h3 R3 C3 K3 c41)
  by_cases h0 : en = 0
  · have h0' : (en : Int) = 0 := by omega
    have HE0 := Lib.hid h0
    clear h0
    have iv := otM_inv HI.out.1 H3.out.1 HI.out.2.2.1
    obtain ⟨l3, hc3⟩ := iv.2.2.2.1
    have px := HIX.out.kq H3.out.2.2.2.2
    have c44 := write_any w5 T3 p q m3 c3 H3.out.2.1 H3.out.2.2.1 iv.1 (by rw [hc3]; exact HI.out.2.1) iv.2.1 (by have := iv.2.2.2.2.1; have := HI.out.2.2.2.1; omega) (nms_mono iv.2.2.2.2.2.2 (by decide)) idxN (by decide) IA ic hn (headB 1 0 0) HHL.out.1 px.rdn px.1 (by have := HHL.out; omega) (by rw [iv.2.2.2.2.2.1]; exact HI.out.2.2.2.2)
    rw [idx_str] at c44
    clear iv hc3 px
    go_upto_region 13 with (go_at_call 44; (with_reducible refine c44.mono ?_); rintro e w6 ⟨e4, m4, T4, rfl, hw4, R4, X4⟩; have H4 := Lib.hid (And.intro hw4 (And.intro R4 X4)); clear hw4 R4 X4 c44)
    by_cases h1 : e4 = 0
    · have h1' : (e4 : Int) = 0 := by omega
      have HE1 := Lib.hid h1
      clear h1
      go_wp2
      go_ret2
      exact ⟨p, e4, m4, c3, T4, by rw [HE1.out]; rfl, ⟨0, m3, by rw [← HE0.out]; exact H3.out.1, Or.inl ⟨rfl, rfl, H4.out.1⟩⟩, H4.out.2.1, H3.out.2.2.1.keep (kp_ext H4.out.2.2), H3.out.2.2.2.1.trans (kq_kp (kp_ext H4.out.2.2)), HPS.out⟩
    · have h1' : ¬ (e4 : Int) = 0 := by omega
      have HE1 := Lib.hid h1
      clear h1
      go_wp2
      go_ret2
      exact ⟨p, e4, m4, c3, T4, by rw [opV_ne HE1.out]; rfl, ⟨0, m3, by rw [← HE0.out]; exact H3.out.1, Or.inl ⟨rfl, rfl, H4.out.1⟩⟩, H4.out.2.1, H3.out.2.2.1.keep (kp_ext H4.out.2.2), H3.out.2.2.2.1.trans (kq_kp (kp_ext H4.out.2.2)), HPS.out⟩
  · have h0' : ¬ (en : Int) = 0 := by omega
    have HE0 := Lib.hid h0
    clear h0
    go_wp2
    go_ret2
    exact ⟨p, en, m3, c3, T3, by rw [opV_ne HE0.out]; rfl, ⟨en, m3, H3.out.1, Or.inr ⟨fun h => HE0.out h.2, rfl, rfl⟩⟩, H3.out.2.1, H3.out.2.2.1, H3.out.2.2.2.1, HPS.out⟩
set_option maxHeartbeats 4000000 in
theorem open_old (w : World) (T : Nat → Tag) (q : Nat) (m : M) (mo : Nat) (R : Rep w T q m) (he : m.readE idxN = 0) (hok : hdOk (m.readP idxN) = true) (hB0 : valP (body (m.readP idxN)) 1 = 0) (I : TvI (⟨mo, valP (body (m.readP idxN)) 0, valP (body (m.readP idxN)) 1, valP (body (m.readP idxN)) 2, [], [], false⟩ : CD) m) (hB9 : valP (body (m.readP idxN)) 1 < 100) (hms : Nms m 4000) (hd : m.done ≤ 600000) (hroom : -1000000000000 ≤ m.room) :
    Calls Tryz.prog 11 #[.pointer (some ⟨q, 0, none⟩), .int .i64 (mo : Int)] w (OpSaid w.heap.size w T q m (⟨mo, valP (body (m.readP idxN)) 0, valP (body (m.readP idxN)) 1, valP (body (m.readP idxN)) 2, [], [], false⟩ : CD) false) := by
  have c25 := Shf.read_rep w T q m idxN R (by decide)
  rw [he, idx_str] at c25
  have hfl := I.fl
  obtain ⟨l, hl⟩ : ∃ x, x = m.readP idxN := ⟨_, rfl⟩
  rw [← hl] at hB0 hok I hB9 c25 ⊢
  have hwl : whole l = true := by unfold hdOk at hok; exact (Bool.and_eq_true_iff.1 hok).1
  obtain ⟨hF, hhF⟩ : ∃ x, x = valP (body l) 0 := ⟨_, rfl⟩
  obtain ⟨hB, hhB⟩ : ∃ x, x = valP (body l) 1 := ⟨_, rfl⟩
  obtain ⟨hU, hhU⟩ : ∃ x, x = valP (body l) 2 := ⟨_, rfl⟩
  have hcs : hdCs (whole l) #[.pointer (some ⟨q, 0, none⟩), .int .i64 (mo : Int), .int .u64 0, .int .u64 0, .int .u64 0, .slice none 0 0, .slice none 0 0, .bool false] l = #[.pointer (some ⟨q, 0, none⟩), .int .i64 (mo : Int), .int .u64 (hF : Int), .int .u64 (hB : Int), .int .u64 (hU : Int), .slice none 0 0, .slice none 0 0, .bool false] := by
    rw [hwl, hhF, hhB, hhU]; rfl
  rw [← hhF, ← hhB, ← hhU] at I ⊢
  rw [← hhB] at hB0 hB9
  obtain ⟨c0, hc0⟩ : ∃ x : CD, x = ⟨mo, hF, hB, hU, [], [], false⟩ := ⟨_, rfl⟩
  rw [← hc0] at I ⊢
  have HI := Lib.hid (And.intro I (And.intro (show c0.hB < 100 by rw [hc0]; exact hB9) (And.intro hms (And.intro hd hroom))))
  have HR := Lib.hid R
  have HCS := Lib.hid (And.intro hcs (And.intro hok (And.intro hB0 hc0)))
  have HFL : Hid (l.length ≤ 900000) := by show l.length ≤ _; rw [hl]; exact hfl _
  have HTN : Hid (∀ b, w.heap.size ≤ b → T b = .none) := fun b hb => rep_old R hb
  clear R he hok hB0 I hB9 hms hd hroom hfl hl hwl hhF hhB hhU hcs hc0
  go_enter Tryz.func11, Tryz.ntmps11
  go_upto_region 8 with (go_at_call 25; (with_reducible refine c25.mono ?_); rintro e w1 ⟨v, rfl, hf, B1⟩; obtain ⟨IA, ic, rfl, r1, r2, r3⟩ := fresh_form hf; have H1 := Lib.hid (And.intro r1 (And.intro r2 (And.intro r3 B1))); clear hf r1 r2 r3 B1 c25)
  have N3' := heap_alloc_new w1 (.cells #[.pointer (some ⟨q, 0, none⟩), .int .i64 (mo : Int), .int .u64 0, .int .u64 0, .int .u64 0, .slice none 0 0, .slice none 0 0, .bool false] 82)
  have B3' : Below w1.heap.size w1 (w1.alloc (.cells #[.pointer (some ⟨q, 0, none⟩), .int .i64 (mo : Int), .int .u64 0, .int .u64 0, .int .u64 0, .slice none 0 0, .slice none 0 0, .bool false] 82)) := (Below.refl _ _).alloc (Nat.le_refl _) _
  generalize w1.alloc (.cells #[.pointer (some ⟨q, 0, none⟩), .int .i64 (mo : Int), .int .u64 0, .int .u64 0, .int .u64 0, .slice none 0 0, .slice none 0 0, .bool false] 82) = w3 at *
  obtain ⟨p, hp⟩ : ∃ x, x = w1.heap.size := ⟨_, rfl⟩
  rw [← hp] at N3' ⊢
  have HPS : Hid (w.heap.size ≤ p) := by show _ ≤ p; rw [hp]; exact H1.out.2.2.2.size
  have c39 := takeHead_any w3 p #[.pointer (some ⟨q, 0, none⟩), .int .i64 (mo : Int), .int .u64 0, .int .u64 0, .int .u64 0, .slice none 0 0, .slice none 0 0, .bool false] N3' rfl (nob8 q mo) IA l.length ic l rfl HFL.out H1.out.2.1 H1.out.2.2.1 ((H1.out.1.below B3' (Nat.le_refl _)).more B3'.size)
  rw [HCS.out.1, HCS.out.2.1] at c39
  have HB3 := Lib.hid (H1.out.2.2.2.trans (B3'.mono H1.out.2.2.2.size))
  have HN3 := Lib.hid N3'
  clear N3' B3' hp
  have c40 : ∀ y, y.heap[p]? = some (.cells #[.pointer (some ⟨q, 0, none⟩), .int .i64 (mo : Int), .int .u64 (hF : Int), .int .u64 (hB : Int), .int .u64 (hU : Int), .slice none 0 0, .slice none 0 0, .bool false] 82 (0, 0)) → Calls Tryz.prog 40 #[.pointer (some ⟨p, 0, none⟩)] y fun e w' => e = .returned (.bool true) ∧ y = w' := fun y hy => by
    rw [HCS.out.2.2.1] at hy
    exact takeBase_none y p q mo hF hU _ _ hy
  go_upto_region 10 with (first
    | (go_at_call 39; (with_reducible refine c39.mono ?_); rintro e w4 ⟨rfl, G4, N4⟩; have HG4 := Lib.hid G4; have HN4 := Lib.hid N4; have c40' := c40 w4 N4; clear G4 N4 c39 c40)
    | (go_at_call 40; (with_reducible refine c40'.mono ?_); rintro e wx ⟨rfl, rfl⟩; clear c40'))
  have hbel : Below w.heap.size w w4 := Coin.below_grown HB3.out HG4.out HPS.out
  have HX : Hid (Rep w4 T q m ∧ CAt w.heap.size w4 T p q c0 ∧ Kq w.heap.size w T w4 T) := ⟨HR.out.below hbel, ⟨none, 0, .slice none 0 0, none, by rw [HCS.out.2.2.2]; exact HN4.out, HTN.out p HPS.out, by rw [HCS.out.2.2.2]; exact ⟨fun _ => rfl, Nat.le_refl _, fun h => absurd h (Nat.lt_irrefl 0)⟩, by rw [HCS.out.2.2.2]; exact ⟨[], rfl, OwnO.nil w4 60 4, fun g h => (by cases h), fun x hx => (by cases hx), List.Pairwise.nil, fun g h => (by cases h), fun x hx => (by cases hx)⟩, HPS.out⟩, kq_kp (kp_below hbel T)⟩
  clear hbel
  generalize w4 = wx at *
  have c41 := open_io wx T p q m c0 _ rfl HX.out.1 HX.out.2.1 HI.out.1 HI.out.2.1 HI.out.2.2.1
  go_upto_region 11 with (go_at_call 41; (with_reducible refine c41.mono ?_); rintro e w5 ⟨en, rfl, m3, c3, T3, h3, R3, C3, K3⟩; have H3 := Lib.hid (And.intro h3 (And.intro R3 (And.intro C3 (And.intro (HX.out.2.2.trans K3) K3)))); clear h3 R3 C3 K3 c41)
  by_cases h0 : en = 0
  · have h0' : (en : Int) = 0 := by omega
    have HE0 := Lib.hid h0
    clear h0
    go_wp2
    go_ret2
    exact ⟨p, en, m3, c3, T3, by rw [HE0.out]; rfl, ⟨en, m3, H3.out.1, Or.inr ⟨fun h => absurd h.1 (by decide), rfl, rfl⟩⟩, H3.out.2.1, H3.out.2.2.1, H3.out.2.2.2.1, HPS.out⟩
  · have h0' : ¬ (en : Int) = 0 := by omega
    have HE0 := Lib.hid h0
    clear h0
    go_wp2
    go_ret2
    exact ⟨p, en, m3, c3, T3, by rw [opV_ne HE0.out]; rfl, ⟨en, m3, H3.out.1, Or.inr ⟨fun h => HE0.out h.2, rfl, rfl⟩⟩, H3.out.2.1, H3.out.2.2.1, H3.out.2.2.2.1, HPS.out⟩
set_option maxHeartbeats 4000000 in
theorem open_oldB (w : World) (T : Nat → Tag) (q : Nat) (m : M) (mo : Nat) (R : Rep w T q m) (he : m.readE idxN = 0) (hok : hdOk (m.readP idxN) = true) (hB0 : valP (body (m.readP idxN)) 1 ≠ 0) (hb1 : m.readE (bName (valP (body (m.readP idxN)) 1)) = 0) (hb2 : whole (m.readP (bName (valP (body (m.readP idxN)) 1))) = true) (hb3 : (kind (m.readP (bName (valP (body (m.readP idxN)) 1)))).toNat = 98) (I : TvI (⟨mo, valP (body (m.readP idxN)) 0, valP (body (m.readP idxN)) 1, valP (body (m.readP idxN)) 2, (body (m.readP (bName (valP (body (m.readP idxN)) 1)))), [], false⟩ : CD) m) (hB9 : valP (body (m.readP idxN)) 1 < 100) (hms : Nms m 4000) (hd : m.done ≤ 600000) (hroom : -1000000000000 ≤ m.room) :
    Calls Tryz.prog 11 #[.pointer (some ⟨q, 0, none⟩), .int .i64 (mo : Int)] w (OpSaid w.heap.size w T q m (⟨mo, valP (body (m.readP idxN)) 0, valP (body (m.readP idxN)) 1, valP (body (m.readP idxN)) 2, (body (m.readP (bName (valP (body (m.readP idxN)) 1)))), [], false⟩ : CD) false) := by
  have c25 := Shf.read_rep w T q m idxN R (by decide)
  rw [he, idx_str] at c25
  have hfl := I.fl
  obtain ⟨l, hl⟩ : ∃ x, x = m.readP idxN := ⟨_, rfl⟩
  rw [← hl] at hB0 hb1 hb2 hb3 hok I hB9 c25 ⊢
  have hwl : whole l = true := by unfold hdOk at hok; exact (Bool.and_eq_true_iff.1 hok).1
  obtain ⟨hF, hhF⟩ : ∃ x, x = valP (body l) 0 := ⟨_, rfl⟩
  obtain ⟨hB, hhB⟩ : ∃ x, x = valP (body l) 1 := ⟨_, rfl⟩
  obtain ⟨hU, hhU⟩ : ∃ x, x = valP (body l) 2 := ⟨_, rfl⟩
  have hcs : hdCs (whole l) #[.pointer (some ⟨q, 0, none⟩), .int .i64 (mo : Int), .int .u64 0, .int .u64 0, .int .u64 0, .slice none 0 0, .slice none 0 0, .bool false] l = #[.pointer (some ⟨q, 0, none⟩), .int .i64 (mo : Int), .int .u64 (hF : Int), .int .u64 (hB : Int), .int .u64 (hU : Int), .slice none 0 0, .slice none 0 0, .bool false] := by
    rw [hwl, hhF, hhB, hhU]; rfl
  rw [← hhF, ← hhB, ← hhU] at I ⊢
  rw [← hhB] at hB0 hb1 hb2 hb3 hB9
  obtain ⟨lb, hlb⟩ : ∃ x, x = m.readP (bName hB) := ⟨_, rfl⟩
  rw [← hlb] at hb2 hb3 I ⊢
  have hbl : lb.length ≤ 900000 := by rw [hlb]; exact hfl _
  obtain ⟨c0, hc0⟩ : ∃ x : CD, x = ⟨mo, hF, hB, hU, body lb, [], false⟩ := ⟨_, rfl⟩
  rw [← hc0] at I ⊢
  have HI := Lib.hid (And.intro I (And.intro (show c0.hB < 100 by rw [hc0]; exact hB9) (And.intro hms (And.intro hd hroom))))
  have HR := Lib.hid R
  have HCS := Lib.hid (And.intro hcs (And.intro hok (And.intro hB0 hc0)))
  have HFL : Hid (l.length ≤ 900000) := by show l.length ≤ _; rw [hl]; exact hfl _
  have HTN : Hid (∀ b, w.heap.size ≤ b → T b = .none) := fun b hb => rep_old R hb
  have HBB := Lib.hid (And.intro hb1 (And.intro hb2 (And.intro hb3 (And.intro hbl (And.intro hlb hB9)))))
  clear hb1 hb2 hb3 hbl hlb
  clear R he hok hB0 I hB9 hms hd hroom hfl hl hwl hhF hhB hhU hcs hc0
  go_enter Tryz.func11, Tryz.ntmps11
  go_upto_region 8 with (go_at_call 25; (with_reducible refine c25.mono ?_); rintro e w1 ⟨v, rfl, hf, B1⟩; obtain ⟨IA, ic, rfl, r1, r2, r3⟩ := fresh_form hf; have H1 := Lib.hid (And.intro r1 (And.intro r2 (And.intro r3 B1))); clear hf r1 r2 r3 B1 c25)
  have N3' := heap_alloc_new w1 (.cells #[.pointer (some ⟨q, 0, none⟩), .int .i64 (mo : Int), .int .u64 0, .int .u64 0, .int .u64 0, .slice none 0 0, .slice none 0 0, .bool false] 82)
  have B3' : Below w1.heap.size w1 (w1.alloc (.cells #[.pointer (some ⟨q, 0, none⟩), .int .i64 (mo : Int), .int .u64 0, .int .u64 0, .int .u64 0, .slice none 0 0, .slice none 0 0, .bool false] 82)) := (Below.refl _ _).alloc (Nat.le_refl _) _
  generalize w1.alloc (.cells #[.pointer (some ⟨q, 0, none⟩), .int .i64 (mo : Int), .int .u64 0, .int .u64 0, .int .u64 0, .slice none 0 0, .slice none 0 0, .bool false] 82) = w3 at *
  obtain ⟨p, hp⟩ : ∃ x, x = w1.heap.size := ⟨_, rfl⟩
  rw [← hp] at N3' ⊢
  have HPS : Hid (w.heap.size ≤ p) := by show _ ≤ p; rw [hp]; exact H1.out.2.2.2.size
  have c39 := takeHead_any w3 p #[.pointer (some ⟨q, 0, none⟩), .int .i64 (mo : Int), .int .u64 0, .int .u64 0, .int .u64 0, .slice none 0 0, .slice none 0 0, .bool false] N3' rfl (nob8 q mo) IA l.length ic l rfl HFL.out H1.out.2.1 H1.out.2.2.1 ((H1.out.1.below B3' (Nat.le_refl _)).more B3'.size)
  rw [HCS.out.1, HCS.out.2.1] at c39
  have HB3 := Lib.hid (H1.out.2.2.2.trans (B3'.mono H1.out.2.2.2.size))
  have HN3 := Lib.hid N3'
  clear N3' B3' hp
  have c40 : ∀ y, Below w.heap.size w y → y.heap[p]? = some (.cells #[.pointer (some ⟨q, 0, none⟩), .int .i64 (mo : Int), .int .u64 (hF : Int), .int .u64 (hB : Int), .int .u64 (hU : Int), .slice none 0 0, .slice none 0 0, .bool false] 82 (0, 0)) → Calls Tryz.prog 40 #[.pointer (some ⟨p, 0, none⟩)] y fun e w' => ∃ A9 bc, e = .returned (.bool true) ∧ y.grownBy w' (some p) ∧ w'.heap[p]? = some (.cells #[.pointer (some ⟨q, 0, none⟩), .int .i64 (mo : Int), .int .u64 (hF : Int), .int .u64 (hB : Int), .int .u64 (hU : Int), .slice A9 (body lb).length bc, .slice none 0 0, .bool false] 82 (0, 0)) ∧ PAt w' T A9 bc (body lb) := fun y hy hrow => by
    refine (takeBase_any y T p q m (HR.out.below hy) mo hF hB hU hrow HCS.out.2.2.1 HBB.out.2.2.2.2.2 (by rw [← HBB.out.2.2.2.2.1]; exact HBB.out.2.2.2.1)).mono ?_
    rintro e w' ⟨A9, bn, bc, rfl, h1, h2, h3⟩
    rw [← HBB.out.2.2.2.2.1] at h3 ⊢
    obtain ⟨rfl, h5⟩ := h3 HBB.out.1 HBB.out.2.1
    refine ⟨A9, bc, ?_, h1, h2, h5⟩
    rw [HBB.out.1, HBB.out.2.1, HBB.out.2.2.1]
    rfl
  go_upto_region 10 with (first
    | (go_at_call 39; (with_reducible refine c39.mono ?_); rintro e w4 ⟨rfl, G4, N4⟩; have B4 := Coin.below_grown HB3.out G4 HPS.out; have c40' := c40 w4 B4 N4; have HB4 := Lib.hid B4; clear G4 N4 B4 c39 c40)
    | (go_at_call 40; (with_reducible refine c40'.mono ?_); rintro e wx ⟨A9, bc, rfl, G5, N5, P5⟩; have HG5 := Lib.hid (And.intro G5 (And.intro N5 P5)); clear G5 N5 P5 c40'))
  have hbel : Below w.heap.size w wx := Coin.below_grown HB4.out HG5.out.1 HPS.out
  have HX : Hid (Rep wx T q m ∧ CAt w.heap.size wx T p q c0 ∧ Kq w.heap.size w T wx T) := ⟨HR.out.below hbel, ⟨A9, bc, .slice none 0 0, none, by rw [HCS.out.2.2.2]; exact HG5.out.2.1, HTN.out p HPS.out, by rw [HCS.out.2.2.2]; exact HG5.out.2.2, by rw [HCS.out.2.2.2]; exact ⟨[], rfl, OwnO.nil wx 60 4, fun g h => (by cases h), fun x hx => (by cases hx), List.Pairwise.nil, fun g h => (by cases h), fun x hx => (by cases hx)⟩, HPS.out⟩, kq_kp (kp_below hbel T)⟩
  clear hbel
  have c41 := open_io wx T p q m c0 _ rfl HX.out.1 HX.out.2.1 HI.out.1 HI.out.2.1 HI.out.2.2.1
  go_upto_region 11 with (go_at_call 41; (with_reducible refine c41.mono ?_); rintro e w5 ⟨en, rfl, m3, c3, T3, h3, R3, C3, K3⟩; have H3 := Lib.hid (And.intro h3 (And.intro R3 (And.intro C3 (And.intro (HX.out.2.2.trans K3) K3)))); clear h3 R3 C3 K3 c41)
  by_cases h0 : en = 0
  · have h0' : (en : Int) = 0 := by omega
    have HE0 := Lib.hid h0
    clear h0
    go_wp2
    go_ret2
    exact ⟨p, en, m3, c3, T3, by rw [HE0.out]; rfl, ⟨en, m3, H3.out.1, Or.inr ⟨fun h => absurd h.1 (by decide), rfl, rfl⟩⟩, H3.out.2.1, H3.out.2.2.1, H3.out.2.2.2.1, HPS.out⟩
  · have h0' : ¬ (en : Int) = 0 := by omega
    have HE0 := Lib.hid h0
    clear h0
    go_wp2
    go_ret2
    exact ⟨p, en, m3, c3, T3, by rw [opV_ne HE0.out]; rfl, ⟨en, m3, H3.out.1, Or.inr ⟨fun h => HE0.out h.2, rfl, rfl⟩⟩, H3.out.2.1, H3.out.2.2.1, H3.out.2.2.2.1, HPS.out⟩
end Go.Proofs.YtdbhgkbmbbjpdaaGreatDoor.Chr
