/- One more volume out of its file. -/
import Derived.Test.YtdbhgkbmbbjpdaaGreatDoorNv
namespace Go.Proofs.YtdbhgkbmbbjpdaaGreatDoor.Chr
variable {lo : Nat}
open Go.ChangeShapes Go.WideShapes Go.ChangeAt Go.RowKit
open Shf (S str)
open Coin (Rd Row Own sz coin got Pur takeV endV CoinSaid)
open Frm (pack err size kind cnt body noItem itemV OneSaid)
set_option maxRecDepth 8000
set_option linter.unusedVariables false
open Shf (Tag Ext Rep M RdN)
theorem chain_one (l : S) : ∀ (xs : List Nat) (a b e : Nat) (xs' : List Nat) (b' e' : Nat), Frm.chain l a xs b → Frm.ends l b e → Frm.chain l a xs' b' → Frm.ends l b' e' → xs = xs' ∧ b = b'
  | [], a, b, e, [], b', e', h, _, h', _ => ⟨rfl, (show a = b from h).symm.trans h'⟩
  | [], a, b, e, y :: ys, b', e', h, he, h', _ => by
    have h : a = b := h
    obtain ⟨_, h1, h2, _⟩ := h'
    rcases he with ⟨h3, _⟩ | ⟨_, h4, h5⟩
    · omega
    · rw [← h, h2] at h4; exact absurd h4.symm h5
  | x :: xs, a, b, e, [], b', e', h, _, h', he => by
    have h' : a = b' := h'
    obtain ⟨_, h1, h2, _⟩ := h
    rcases he with ⟨h3, _⟩ | ⟨_, h4, h5⟩
    · omega
    · rw [← h', h2] at h4; exact absurd h4.symm h5
  | x :: xs, a, b, e, y :: ys, b', e', h, he, h', he' => by
    obtain ⟨h1, _, _, h4⟩ := h
    obtain ⟨k1, _, _, k4⟩ := h'
    obtain ⟨r1, r2⟩ := chain_one l xs _ b e ys b' e' h4 he k4 he'
    exact ⟨by rw [h1, k1, r1], r2⟩
theorem volIs_one {l : S} {d d' : VolD} (h : VolIs l d) (h' : VolIs l d') : d = d' := by
  obtain ⟨ps, b, e, h1, h2, _, _, rfl⟩ := h
  obtain ⟨ps', b', e', k1, k2, _, _, rfl⟩ := h'
  obtain ⟨r1, r2⟩ := chain_one l _ _ _ _ _ _ _ h1 h2 k1 k2
  injection r1 with _ r1
  rw [r1, r2]
theorem VsAt.app2 {w0 w : World} {T0 T : Nat → Tag} {v : Value} {vols : List VolD} {gv : Option Nat} (h0 : VsAt lo w0 T0 v vols gv) (K : Kp w0 T0 w T) (d : VolD) (A : Option Addr) (n c : Nat) (gl : Option Nat) (hL : LAt w T (.slice A n c) d.its gl) (hgl : ∀ g, gl = some g → w0.heap.size ≤ g) (g6 : Nat) (hN : w.heap[g6]? = some (.cells #[.int .u64 (d.no : Int), .int .u64 (d.first : Int), .slice A n c, .int .i64 (d.size : Int)] 60 (0, 0))) (hT : ∀ b, w.heap.size ≤ b → T b = .none) (hn : vols.length ≤ 1000000) (hlo : lo ≤ w0.heap.size) :
    ∃ v' w' gv', (Builtin.append_ #[53, 53] 53 #[v, .slice (some ⟨g6, 0, none⟩) 1 1]).run Tryz.prog w = .ok v' w' ∧ VsAt lo w' T v' (vols ++ [d]) gv' ∧ w.grownBy w' gv := by
  obtain ⟨vs, h1, h2', h3', h4', h5⟩ := h0
  have h2 := h2'.keep fun g hg => (K.block g (h2'.lt g hg).1 (h3' g hg)).1
  have h3 : ∀ g, gv = some g → T g = .none := fun g hg => (K.block g (h2'.lt g hg).1 (h3' g hg)).2
  obtain ⟨i, hi, hi2⟩ := Option.map_eq_some_iff.1 info60
  injection hi2 with e1 e2
  injection e2 with e2 e3
  obtain ⟨c0, c1, c2, c3, -⟩ := Frm.cells4 hN
  obtain ⟨v', w', gl', hr, O', G, hgl'⟩ := h2.app (P := Tryz.prog) 53 53 i _ 48 Tryz.underlying53 hi e1 e2 e3 rfl (by decide) ⟨g6, 0, none⟩ 1 [.int .u64 (d.no : Int), .int .u64 (d.first : Int), .slice A n c, .int .i64 (d.size : Int)] rfl (fun j u hj => by
    rw [Shf.zero_add']
    match j, hj with
    | 0, hj => injection hj with hj; rw [← hj]; exact c0
    | 1, hj => injection hj with hj; rw [← hj]; exact c1
    | 2, hj => injection hj with hj; rw [← hj]; exact c2
    | 3, hj => injection hj with hj; rw [← hj]; exact c3) (fun u hu => by
    simp only [List.mem_cons, List.not_mem_nil, or_false] at hu
    rcases hu with rfl | rfl | rfl | rfl <;> rfl) hn (by decide)
  have hY : ∀ t, t ≠ 60 → ∀ g, gv = some g → NotTy w g t := fun t ht g e => by
    obtain ⟨cur, hc⟩ := (h2.lt g e).2
    exact notTy hc (Ne.symm ht)
  refine ⟨v', w', gl', hr, ⟨vs ++ [(d, .slice A n c, gl)], by rw [List.map_append, h1]; rfl, ?_, fun g e => ?_, fun x hx => ?_, ?_⟩, G⟩
  · rw [List.flatMap_append, List.length_append]
    exact O'
  · rcases hgl' with rfl | hgl'
    · exact h3 g e
    · exact hT g (hgl' g e)
  · rcases List.mem_append.1 hx with hx | hx
    · exact ((h4' x hx).keep K).grownO G (hY 5 (by decide)) (hY 75 (by decide))
    · rw [List.mem_singleton.1 hx]
      exact hL.grownO G (hY 5 (by decide)) (hY 75 (by decide))
  · refine ⟨?_, fun g e => ?_, fun x hx g e => ?_⟩
    · rw [List.pairwise_append]
      refine ⟨h5.1, List.pairwise_singleton _ _, fun x hx y hy => ?_⟩
      rw [List.mem_singleton.1 hy]
      cases hx2 : x.2.2 with
      | none => exact Or.inl rfl
      | some y0 =>
        right
        intro e
        have := hgl y0 e.symm
        obtain ⟨ds, _, j2, _⟩ := h4' x hx
        have := (j2.lt y0 hx2).1
        omega
    · rcases hgl' with rfl | hgl'
      · exact h5.2.1 g e
      · exact Nat.le_trans (Nat.le_trans hlo K.size) (hgl' g e)
    · rcases List.mem_append.1 hx with hx | hx
      · exact h5.2.2 x hx g e
      · rw [List.mem_singleton.1 hx] at e
        exact Nat.le_trans hlo (hgl g e)
theorem vol_end {w wd : World} {T T' : Nat → Tag} {p q : Nat} {c : CD} {bA : Option Addr} {bc : Nat} {vv : Value} {gv : Option Nat} (h : CAtV lo w T p q c bA bc vv gv) (K : Kp w T wd T') (d : VolD) (A : Option Addr) (n cl : Nat) (gl : Option Nat) (hL : LAt wd T' (.slice A n cl) d.its gl) (hgl : ∀ g, gl = some g → w.heap.size ≤ g) (g6 : Nat) (hN : wd.heap[g6]? = some (.cells #[.int .u64 (d.no : Int), .int .u64 (d.first : Int), .slice A n cl, .int .i64 (d.size : Int)] 60 (0, 0))) (hT : ∀ b, wd.heap.size ≤ b → T' b = .none) (hn : c.vols.length ≤ 1000000) :
    ∃ v' w', (Builtin.append_ #[53, 53] 53 #[vv, .slice (some ⟨g6, 0, none⟩) 1 1]).run Tryz.prog wd = .ok v' w' ∧ (∃ A n cap, v' = .slice A n cap) ∧ (∀ b, b < wd.heap.size → gv ≠ some b → w'.heap[b]? = wd.heap[b]?) ∧ (∃ u, w'.cell? ⟨p, 6, none⟩ = some u) ∧ w'.frozen? ⟨p, 6, none⟩ = false ∧
      CAt lo (w'.setCell ⟨p, 6, none⟩ v') T' p q {c with vols := c.vols ++ [d]} ∧ Kq lo w T (w'.setCell ⟨p, 6, none⟩ v') T' ∧ (∀ m, Rep wd T' q m → Rep (w'.setCell ⟨p, 6, none⟩ v') T' q m) := by
  have hd := h.keep K
  obtain ⟨v', w', gv', hr, V, G⟩ := h.vs.app2 K d A n cl gl hL hgl g6 hN hT hn (Nat.le_trans h.lp (Nat.le_of_lt (Array.getElem?_eq_some_iff.1 h.row).1))
  have hY : ∀ t, t ≠ 60 → ∀ g, gv = some g → NotTy wd g t := fun t ht g e => by
    obtain ⟨vs, _, h2, _⟩ := hd.vs
    obtain ⟨cur, hc⟩ := (h2.lt g e).2
    exact notTy hc (Ne.symm ht)
  have hgv : ∀ g, gv = some g → g < w.heap.size ∧ ∃ cur, w.heap[g]? = some (.cells cur 60 (0, 0)) := fun g e => by
    obtain ⟨vs, _, h2, _⟩ := h.vs
    exact h2.lt g e
  have hp : w'.heap[p]? = some (.cells (cC q c bA bc vv) 82 (0, 0)) := (G.block p (Array.getElem?_eq_some_iff.1 hd.row).1 (fun e => hY 82 (by decide) p e.symm _ hd.row)).trans hd.row
  have G2 := Shf.grown_set w' p 6 v'
  have hb : ∀ b, b < wd.heap.size → gv ≠ some b → w'.heap[b]? = wd.heap[b]? := fun b hb hne => G.block b hb (Ne.symm hne)
  obtain ⟨A', cap, hv⟩ : ∃ A cap, v' = .slice A (c.vols ++ [d]).length cap := by
    obtain ⟨vs, _, h2, _⟩ := V
    obtain ⟨A, cap, e, _⟩ := h2.form
    exact ⟨A, cap, e⟩
  have y6 := (row8 hp).2.2.2.2.2.2.1
  refine ⟨v', w', hr, ⟨A', _, cap, hv⟩, hb, ⟨_, y6⟩, frozen_of_row _ _ _ _ _ hp, ⟨bA, bc, v', gv', ?_, hd.tp, ?_, ?_, h.lp⟩, ⟨?_, fun b hb hn => (K.block b hb hn).2, ?_, G2.os.trans (G.os.trans K.os), G2.tape.trans (G.tape.trans K.tape), G2.output.trans (G.output.trans K.output), fun b hlt hn hl => ?_⟩, fun m R => R.far (P := fun b => gv = some b ∨ b = p) ⟨G2.os.trans G.os, G2.tape.trans G.tape, G2.output.trans G.output, Nat.le_trans G.size G2.size, fun b hlt hne => (G2.block b (Nat.lt_of_lt_of_le hlt G.size) (fun e => hne (Or.inr (by injection e)))).trans (hb b hlt (fun e => hne (Or.inl e)))⟩ (fun b hT9 hP => by
    rcases hP with e | e
    · obtain ⟨vs, _, _, h3, _⟩ := hd.vs
      exact hT9 (h3 b e)
    · rw [e] at hT9
      exact hT9 hd.tp)⟩
  · rw [heap_setCell_same w' p 6 _ 82 _ hp]
    rfl
  · exact (hd.ba.grownO G (hY 5 (by decide))).grown G2 (notTy hp (by decide))
  · exact V.grown G2 (notTy hp (by decide)) (notTy hp (by decide)) (notTy hp (by decide))
  · exact Nat.le_trans K.size (Nat.le_trans G.size G2.size)
  · intro b hlt hn h82 h60 h75
    have hne : gv ≠ some b := fun e => by
      obtain ⟨cur, hc⟩ := (hgv b e).2
      exact h60 _ hc
    have hnp : b ≠ p := fun e => by rw [e] at h82; exact h82 _ h.row
    have hl2 := Nat.lt_of_lt_of_le hlt K.size
    exact (G2.block b (Nat.lt_of_lt_of_le hl2 G.size) (fun e => hnp (by injection e))).trans ((hb b hl2 hne).trans (K.block b hlt hn).1)
  · have hne : gv ≠ some b := fun e => by
      obtain ⟨vs, _, _, _, _, _, h6, _⟩ := h.vs
      have := h6 b e
      omega
    have hnp : b ≠ p := fun e => by have := h.lp; omega
    have hl2 := Nat.lt_of_lt_of_le hlt K.size
    exact (G2.block b (Nat.lt_of_lt_of_le hl2 G.size) (fun e => hnp (by injection e))).trans ((hb b hl2 hne).trans (K.block b hlt hn).1)
theorem wf_small (n : Nat) (h : n ≤ 1000000) : (Lit.int .i64 (n : Int)).wf = true := by
  show (decide (IntKind.i64.min ≤ (n : Int)) && decide ((n : Int) ≤ IntKind.i64.max)) = true
  rw [show IntKind.i64.min = -9223372036854775808 from rfl, show IntKind.i64.max = 9223372036854775807 from rfl, Bool.and_eq_true, decide_eq_true_eq, decide_eq_true_eq]
  omega
theorem beq_dec (e : Nat) : ((e : Int) == 0) = decide (e = 0) := by
  by_cases h : e = 0
  · rw [h]; rfl
  · have : ¬ (e : Int) = 0 := by omega
    simp [h]
def TvM (c : CD) (m : M) (ok : Bool) (e : Nat) (m' : M) (c' : CD) : Prop :=
  (m.readE (vName c.nextNo) ≠ 0 ∧ ok = false ∧ e = 0 ∧ m' = m ∧ c' = c) ∨
  (m.readE (vName c.nextNo) = 0 ∧ (∀ d, VolIs (m.readP (vName c.nextNo)) d → ¬ (0 < d.first ∧ d.no = c.nextNo ∧ c.follows d.first = true)) ∧ ok = false ∧ e = 0 ∧ m' = m ∧ c' = c) ∨
  (m.readE (vName c.nextNo) = 0 ∧ ∃ d, VolIs (m.readP (vName c.nextNo)) d ∧ 0 < d.first ∧ d.no = c.nextNo ∧ c.follows d.first = true ∧ d.size ≤ (m.readP (vName c.nextNo)).length ∧ c' = {c with vols := c.vols ++ [d]} ∧ ok = decide (e = 0) ∧
    ((d.size < (m.readP (vName c.nextNo)).length ∧ e = m.cutE (vName c.nextNo) (d.size : Int) ∧ m' = m.cut (vName c.nextNo) (d.size : Int)) ∨ (¬ d.size < (m.readP (vName c.nextNo)).length ∧ e = 0 ∧ m' = m)))
def TvSaid (lo : Nat) (w : World) (T : Nat → Tag) (p q : Nat) (m : M) (c : CD) (e : Ending) (w' : World) : Prop :=
  ∃ (ok : Bool) (en : Nat) (m' : M) (c' : CD) (T' : Nat → Tag), e = .returned (.tuple #[.bool ok, .int .i64 (en : Int)]) ∧ TvM c m ok en m' c' ∧ Rep w' T' q m' ∧ CAt lo w' T' p q c' ∧ Kq lo w T w' T'
set_option maxHeartbeats 4000000 in
theorem takeV_any (w : World) (T : Nat → Tag) (p q : Nat) (m : M) (c : CD) (R : Rep w T q m) (h : CAt lo w T p q c) (hs : c.Small) (hd : m.done < 800000) (hno : c.nextNo < 100) (hlen : (m.readP (vName c.nextNo)).length ≤ 900000) :
    Calls Tryz.prog 71 #[.pointer (some ⟨p, 0, none⟩)] w (TvSaid lo w T p q m c) := by
  have c99 := nextNo_any w T p q c h hs
  have hcat := h
  obtain ⟨bA, bc, vv, gv, h⟩ := h
  obtain ⟨no, hno'⟩ : ∃ n, n = c.nextNo := ⟨_, rfl⟩
  obtain ⟨l, hl⟩ : ∃ x, x = m.readP (vName no) := ⟨_, rfl⟩
  obtain ⟨re, hre⟩ : ∃ x, x = m.readE (vName no) := ⟨_, rfl⟩
  obtain ⟨n, hn⟩ : ∃ x, x = l.length := ⟨_, rfl⟩
  rw [← hno'] at c99 hno hlen
  rw [← hl] at hlen
  have hbn := vName_le no hno
  have HRD : Hid (∀ y, Below w.heap.size w y → Calls Tryz.prog 25 #[.pointer (some ⟨q, 0, none⟩), .string (str (vName no))] y fun e w' => ∃ A c, e = .returned (.tuple #[.slice A n c, .int .i64 (re : Int)]) ∧ Rd w' w'.heap.size A l ∧ l.length ≤ c ∧ (A = none → c = 0) ∧ Below y.heap.size y w') := fun y hy => by
    refine (Shf.read_rep y T q m (vName no) (R.below hy) hbn).mono ?_
    rintro e w' ⟨v, rfl, hf, hb⟩
    obtain ⟨A, c, rfl, h1, h2, h3⟩ := fresh_form hf
    rw [← hl] at h1 h2
    exact ⟨A, c, by rw [hn, hl, hre], h1, h2, h3, hb⟩
  have HTN : Hid (∀ b, w.heap.size ≤ b → T b = .none) := fun b hb => rep_old R hb
  have hpl := (Array.getElem?_eq_some_iff.1 h.row).1
  have HC : Hid (∀ y, Below w.heap.size w y → y.cell? ⟨p, 0, none⟩ = some (.pointer (some ⟨q, 0, none⟩))) := fun y hy => (World.cell?_of_block (a := ⟨p, 0, none⟩) (hy.block p hpl)).trans (row8 h.row).1
  have HPL := Lib.hid (And.intro hpl h.tp)
  have HQ := Lib.hid (And.intro hs (And.intro hd (And.intro hlen hcat)))
  have HH := Lib.hid (And.intro R (And.intro h True.intro))
  have HNO := Lib.hid hno
  have HNN := Lib.hid (And.intro hno' (And.intro hl (And.intro hre hn)))
  have HSAME : Hid (∀ w', Below w.heap.size w w' → TvM c m false 0 m c → TvSaid lo w T p q m c (.returned (.tuple #[.bool false, .int .i64 0])) w') := fun w' B ht =>
    ⟨false, 0, m, c, T, rfl, ht, R.below B, hcat.keep (kp_below B T), kq_kp (kp_below B T)⟩
  clear R h hs hd hno hlen hno' hl hre hn hbn hpl hcat
  go_enter Tryz.func71, Tryz.ntmps71
  go_upto_region 2 with (go_at_call 99; (refine c99.mono ?_); rintro e w1 ⟨rfl, B1⟩; have HB1 := Lib.hid B1; clear B1 c99)
  have HBW := Lib.hid (HB1.out.drew)
  refine wp_region_noPanic ?_
  refine wp_region_held_drew (S := fun y : World => y.cell? ⟨p, 0, none⟩ = some (.pointer (some ⟨q, 0, none⟩))) (by kernel_rfl) (HC.out _ HBW.out) (fun hHeld => ?_)
  generalize w1.drew = wd at *
  refine wpAnyH_take (i := 0) (oi := ⟨some 12, .move (.tmp 0), 26, "files.go:64", #[], none⟩) (v := .pointer (some ⟨p, 0, none⟩)) rfl (by kernel_rfl) (by kernel_rfl) (by kernel_rfl) (fun _ _ _ h => h) (Or.inl ⟨by rfl, fun w hSw => by go_simp⟩) (by assumption) ?_
  try simp only [Act.put, stA, stB, stC]
  refine wpAnyH_take (i := 1) (oi := ⟨some 13, .nilCheck (.tmp 12), 0, "files.go:64", #[⟨0, .data⟩], none⟩) (v := .pointer (some ⟨p, 0, none⟩)) rfl (by kernel_rfl) (by kernel_rfl) (by kernel_rfl) (fun _ _ _ h => h) (Or.inl ⟨by rfl, fun w hSw => by go_simp⟩) (by assumption) ?_
  try simp only [Act.put, stA, stB, stC]
  refine wpAnyH_take (i := 2) (oi := ⟨some 14, .fieldAddr 82 (.tmp 13) 0, 0, "files.go:64", #[⟨1, .data⟩], none⟩) (v := .pointer (some ⟨p, 0, none⟩)) rfl (by kernel_rfl) (by kernel_rfl) (by kernel_rfl) (fun _ _ _ h => h) (Or.inl ⟨by rfl, fun w hSw => by go_simp⟩) (by assumption) ?_
  try simp only [Act.put, stA, stB, stC]
  refine wpAnyH_take (i := 3) (oi := ⟨some 15, .load 24 (.tmp 14), 24, "files.go:64", #[⟨2, .data⟩], none⟩) (v := .pointer (some ⟨q, 0, none⟩)) rfl (by kernel_rfl) (by kernel_rfl) (by kernel_rfl) (fun _ _ _ h => h) (Or.inl ⟨by rfl, fun w hSw => by go_simp⟩) (by assumption) ?_
  try simp only [Act.put, stA, stB, stC]
  refine wpAnyH_take (i := 4) (oi := ⟨some 16, .move (.tmp 4), 42, "files.go:64", #[], none⟩) (v := .int .u64 (no : Int)) rfl (by kernel_rfl) (by kernel_rfl) (by kernel_rfl) (fun _ _ _ h => h) (Or.inl ⟨by rfl, fun w hSw => by go_simp⟩) (by assumption) ?_
  try simp only [Act.put, stA, stB, stC]
  refine wpAnyH_ready (rs := [5]) (by kernel_rfl) (by simp) ?_
  refine AllReadyH.cons (o := ⟨some 17, .call ⟨.value (.func 26), #[.tmp 16], #[42]⟩, 9, "files.go:64", #[⟨4, .data⟩], none⟩) rfl (fun K hK => ?_) AllReadyH.nil
  go_simp
  refine (name_any wd no HNO.out).mono ?_
  rintro e wx ⟨rfl, rfl⟩
  refine hK.out _ _ (hHeld) (fun hHeld => ?_)
  clear hK K
  try simp only [Act.put, stA, stB, stC]
  skip
  refine wpAnyH_ready (rs := [6]) (by kernel_rfl) (by simp) ?_
  refine AllReadyH.cons (o := ⟨some 18, .call ⟨.value (.func 25), #[.tmp 15, .tmp 17], #[24, 9]⟩, 55, "files.go:64", #[⟨3, .data⟩, ⟨5, .data⟩, ⟨5, .chain⟩], none⟩) rfl (fun K hK => ?_) AllReadyH.nil
  go_simp
  refine (HRD.out wd HBW.out).mono ?_
  rintro e w3 ⟨A, cp, rfl, hr, hc, hA, B3⟩
  have H3 := Lib.hid (And.intro hr (And.intro hc (And.intro hA (HBW.out.trans (B3.mono HBW.out.size)))))
  clear hr hc hA B3
  refine hK.out _ _ ((HC.out _ H3.out.2.2.2)) (fun hHeld => ?_)
  clear hK K
  try simp only [Act.put, stA, stB, stC]
  skip
  refine wpAnyH_take (i := 7) (oi := ⟨some 11, .move (.tmp 18), 55, "files.go:64", #[⟨6, .data⟩], none⟩) (v := .tuple #[.slice A n cp, .int .i64 (re : Int)]) rfl (by kernel_rfl) (by kernel_rfl) (by kernel_rfl) (fun _ _ _ h => h) (Or.inl ⟨by rfl, fun w hSw => by go_simp⟩) (by assumption) ?_
  try simp only [Act.put, stA, stB, stC]
  refine wpAnyH_take (i := 8) (oi := ⟨some 19, .extract (.tmp 11) 0, 30, "files.go:64", #[⟨7, .data⟩], none⟩) (v := .slice A n cp) rfl (by kernel_rfl) (by kernel_rfl) (by kernel_rfl) (fun _ _ _ h => h) (Or.inl ⟨by rfl, fun w hSw => by go_simp⟩) (by assumption) ?_
  try simp only [Act.put, stA, stB, stC]
  refine wpAnyH_take (i := 9) (oi := ⟨some 20, .extract (.tmp 11) 1, 27, "files.go:64", #[⟨7, .data⟩, ⟨10, .gcOnly .lateStores⟩], none⟩) (v := .int .i64 (re : Int)) rfl (by kernel_rfl) (by kernel_rfl) (by kernel_rfl) (fun _ _ _ h => h) (Or.inl ⟨by rfl, fun w hSw => by go_simp⟩) (by assumption) ?_
  try simp only [Act.put, stA, stB, stC]
  refine wpAnyH_take (i := 10) (oi := ⟨some 5, .assign (.tmp 19), 30, "files.go:64", #[⟨8, .data⟩, ⟨6, .chain⟩, ⟨0, .phase⟩, ⟨1, .phase⟩, ⟨2, .phase⟩, ⟨3, .phase⟩, ⟨4, .phase⟩, ⟨5, .phase⟩, ⟨6, .phase⟩, ⟨7, .phase⟩, ⟨8, .phase⟩, ⟨9, .textOnly .lateStores⟩], none⟩) (v := .slice A n cp) rfl (by kernel_rfl) (by kernel_rfl) (by kernel_rfl) (fun _ _ _ h => h) (Or.inl ⟨by rfl, fun w hSw => by go_simp⟩) (by assumption) ?_
  try simp only [Act.put, stA, stB, stC]
  refine wpAnyH_take (i := 11) (oi := ⟨some 6, .assign (.tmp 20), 27, "files.go:64", #[⟨9, .data⟩, ⟨10, .chain⟩, ⟨0, .phase⟩, ⟨1, .phase⟩, ⟨2, .phase⟩, ⟨3, .phase⟩, ⟨4, .phase⟩, ⟨5, .phase⟩, ⟨6, .phase⟩, ⟨7, .phase⟩, ⟨8, .phase⟩, ⟨9, .phase⟩, ⟨10, .phase⟩], none⟩) (v := .int .i64 (re : Int)) rfl (by kernel_rfl) (by kernel_rfl) (by kernel_rfl) (fun _ _ _ h => h) (Or.inl ⟨by rfl, fun w hSw => by go_simp⟩) (by assumption) ?_
  try simp only [Act.put, stA, stB, stC]
  refine wpAnyH_done (by kernel_rfl) ?_ _
  try unfold NoPanic
  by_cases h0 : re = 0
  · have h0' : (re : Int) = 0 := by omega
    have hre0 : m.readE (vName c.nextNo) = 0 := by rw [← HNN.out.1, ← HNN.out.2.2.1]; exact h0
    have HRE := Lib.hid hre0
    clear h0 hre0
    have c100 := volOf_any A cp w3.heap.size l w3 T (fun b hb => HTN.out b (Nat.le_trans H3.out.2.2.2.size hb)) HQ.out.2.2.1 H3.out.2.1 H3.out.2.2.1 (Nat.le_refl _) H3.out.1
    rw [← HNN.out.2.2.2] at c100
    go_upto_region 6 with (go_at_call 100; (refine c100.mono ?_); rintro e w4 ⟨d, A9, n9, c9, ok, rfl, B4, h1, h2, h3, h4, h5⟩; have H4 := Lib.hid (And.intro (H3.out.2.2.2.trans (B4.mono H3.out.2.2.2.size)) (And.intro h1 (And.intro h2 (And.intro h3 (And.intro h4 h5))))); clear B4 h1 h2 h3 h4 h5 c100)
    have N5' := heap_alloc_new w4 (.cells #[.int .u64 (d.no : Int), .int .u64 (d.first : Int), .slice A9 n9 c9, .int .i64 (d.size : Int)] 60)
    have B5 : Below w4.heap.size w4 (w4.alloc (.cells #[.int .u64 (d.no : Int), .int .u64 (d.first : Int), .slice A9 n9 c9, .int .i64 (d.size : Int)] 60)) := (Below.refl _ _).alloc (Nat.le_refl _) _
    have B6 := H4.out.1.trans (B5.mono H4.out.1.size)
    generalize w4.alloc (.cells #[.int .u64 (d.no : Int), .int .u64 (d.first : Int), .slice A9 n9 c9, .int .i64 (d.size : Int)] 60) = w5 at *
    obtain ⟨b5, hb5⟩ : ∃ x, x = w4.heap.size := ⟨_, rfl⟩
    rw [← hb5] at N5' ⊢
    have N5 := Lib.hid N5'
    have HB5 : Hid (w.heap.size ≤ b5 ∧ Below w.heap.size w w5) := ⟨by have := H4.out.1.size; omega, B6⟩
    have HB45 := Lib.hid B5
    obtain ⟨y0, y1, y2, y3, yf⟩ := Frm.cells4 N5'
    clear B5 B6 N5' hb5
    have hnone : (∀ d', VolIs l d' → ¬ (0 < d'.first ∧ d'.no = c.nextNo ∧ c.follows d'.first = true)) → TvM c m false 0 m c := fun hx => by
      refine Or.inr (Or.inl ⟨HRE.out, ?_, rfl, rfl, rfl, rfl⟩)
      rw [← HNN.out.1, ← HNN.out.2.1]
      rw [← HNN.out.1] at hx
      exact hx
    have HNONE := Lib.hid hnone
    clear hnone
    cases ok with
    | false =>
      have HZ := Lib.hid (H4.out.2.2.2.2.2 rfl)
      clear H4
      go_wp2
      go_ret2
      exact HSAME.out w5 HB5.out.2 (HNONE.out fun d' hd' hx => by have := HZ.out d' hd'; omega)
    | true =>
      by_cases hno : d.no = no
      · have hno' : (d.no : Int) = no := by omega
        have c101 := follows_any w5 T p q c (HQ.out.2.2.2.keep (kp_below HB5.out.2 T)) HQ.out.1 no d.first n9 c9 A9 (d.size : Int)
        obtain ⟨fo, hfo⟩ : ∃ b, b = c.follows d.first := ⟨_, rfl⟩
        rw [← hfo] at c101
        have HFO := Lib.hid hfo
        have HND := Lib.hid hno
        clear hno hfo
        cases fo with
        | false =>
          go_wp2_with (go_at_call 101; (with_reducible refine c101.mono ?_); rintro e w6 ⟨rfl, B7⟩; have HB7 := Lib.hid (HB5.out.2.trans (B7.mono HB5.out.2.size)); clear B7 c101)
          go_ret2
          exact HSAME.out w6 HB7.out (HNONE.out fun d' hd' hx => by
            have e := volIs_one hd' (H4.out.2.2.2.2.1 (by first | rfl | trivial)).1
            rw [e, ← HFO.out] at hx
            exact absurd hx.2.2 (by decide))
        | true =>
          have HF2 : Hid (∀ w6, Below w5.heap.size w5 w6 → w6.heap[b5]? = some (.cells #[.int .u64 (d.no : Int), .int .u64 (d.first : Int), .slice A9 n9 c9, .int .i64 (d.size : Int)] 60) ∧ Below w.heap.size w w6) := fun w6 hy => ⟨(hy.block b5 (Array.getElem?_eq_some_iff.1 N5.out).1).trans N5.out, HB5.out.2.trans (hy.mono HB5.out.2.size)⟩
          clear y0 y1 y2 y3 yf
          obtain ⟨y0, y1, y2, y3, yf⟩ := Frm.cells4 N5.out
          go_upto_region 8 with (go_at_call 101; (with_reducible refine c101.mono ?_); rintro e w6 ⟨rfl, B7⟩; have H6 := Lib.hid (And.intro B7 (HF2.out w6 B7)); clear B7 c101)
          clear hno'
          obtain ⟨gl9, hl9, hg9⟩ := (H4.out.2.2.2.2.1 (by first | rfl | trivial)).2.2
          have HL9 : Hid (LAt w6 T (.slice A9 n9 c9) d.its gl9 ∧ ∀ g, gl9 = some g → w.heap.size ≤ g) := ⟨(hl9.keep (kp_below HB45.out T)).keep (kp_below H6.out.1 T), fun g e => Nat.le_trans H3.out.2.2.2.size (hg9 g e)⟩
          have HV := Lib.hid (And.intro (H4.out.2.2.2.2.1 (by first | rfl | trivial)).1 (H4.out.2.2.2.2.1 (by first | rfl | trivial)).2.1)
          have HSZ := Lib.hid H4.out.2.2.2.1
          clear hl9 hg9 y0 y1 y2 y3 yf HB45 HF2
          have N5 := Lib.hid H6.out.2.1
          have HB5 : Hid (w.heap.size ≤ b5 ∧ Below w.heap.size w w6) := ⟨HB5.out.1, H6.out.2.2⟩
          obtain ⟨y0, y1, y2, y3, yf⟩ := Frm.cells4 N5.out
          by_cases hlt : d.size < n
          · have hlt' : (d.size : Int) < n := by omega
            obtain ⟨e9, he9⟩ : ∃ x, x = m.cutE (vName no) (d.size : Int) := ⟨_, rfl⟩
            have HCT : Hid (∀ y, Below w.heap.size w y → Calls Tryz.prog 102 #[.pointer (some ⟨q, 0, none⟩), .string (str (vName no)), .int .i64 (d.size : Int)] y fun e w' => e = .returned (.int .i64 (e9 : Int)) ∧ ∃ T', Rep w' T' q (m.cut (vName no) (d.size : Int)) ∧ Ext y T w' T') := fun y hy => by
              rw [he9]
              exact Shf.cut_rep y T q m (vName no) (d.size : Int) (HH.out.1.below hy) (by have := HQ.out.2.1; omega) (vName_le no HNO.out) (by have h1 := HSZ.out; have h2 := HQ.out.2.2.1; show (Lit.int .i64 (d.size : Int)).wf = true; exact wf_small _ (by omega))
            have HCE := Lib.hid (And.intro he9 hlt)
            clear he9 hlt
            go_upto_region 9 with (fail)
            clear y0 y1 y2 y3 yf
            have HBW := Lib.hid (HB5.out.2.drew)
            have HBV := Lib.hid ((Below.refl w6.heap.size w6).drew)
            refine wp_region_noPanic ?_
            refine wp_region_held_drew (S := fun y : World => y.cell? ⟨p, 0, none⟩ = some (.pointer (some ⟨q, 0, none⟩)) ∧ y.heap[b5]? = some (.cells #[.int .u64 (d.no : Int), .int .u64 (d.first : Int), .slice A9 n9 c9, .int .i64 (d.size : Int)] 60)) (by kernel_rfl) ⟨HC.out _ HBW.out, N5.out⟩ (fun hHeld => ?_)
            generalize w6.drew = wd at *
            refine wpAnyH_take (i := 0) (oi := ⟨some 47, .move (.tmp 0), 26, "files.go:73", #[], none⟩) (v := .pointer (some ⟨p, 0, none⟩)) rfl (by kernel_rfl) (by kernel_rfl) (by kernel_rfl) (fun _ _ _ h => h) (Or.inl ⟨by rfl, fun w hSw => by go_simp⟩) (by assumption) ?_
            try simp only [Act.put, stA, stB, stC]
            refine wpAnyH_take (i := 1) (oi := ⟨some 48, .nilCheck (.tmp 47), 0, "files.go:73", #[⟨0, .data⟩], none⟩) (v := .pointer (some ⟨p, 0, none⟩)) rfl (by kernel_rfl) (by kernel_rfl) (by kernel_rfl) (fun _ _ _ h => h) (Or.inl ⟨by rfl, fun w hSw => by go_simp⟩) (by assumption) ?_
            try simp only [Act.put, stA, stB, stC]
            refine wpAnyH_take (i := 2) (oi := ⟨some 49, .fieldAddr 82 (.tmp 48) 0, 0, "files.go:73", #[⟨1, .data⟩], none⟩) (v := .pointer (some ⟨p, 0, none⟩)) rfl (by kernel_rfl) (by kernel_rfl) (by kernel_rfl) (fun _ _ _ h => h) (Or.inl ⟨by rfl, fun w hSw => by go_simp⟩) (by assumption) ?_
            try simp only [Act.put, stA, stB, stC]
            refine wpAnyH_take (i := 3) (oi := ⟨some 50, .load 24 (.tmp 49), 24, "files.go:73", #[⟨2, .data⟩], none⟩) (v := .pointer (some ⟨q, 0, none⟩)) rfl (by kernel_rfl) (by kernel_rfl) (by kernel_rfl) (fun _ _ _ h => h) (Or.inl ⟨by rfl, fun w hSw => by obtain ⟨z0, z1⟩ := hSw; obtain ⟨y0, y1, y2, y3, -⟩ := Frm.cells4 z1; go_simp⟩) (by assumption) ?_
            try simp only [Act.put, stA, stB, stC]
            refine wpAnyH_take (i := 4) (oi := ⟨some 51, .move (.tmp 4), 42, "files.go:73", #[], none⟩) (v := .int .u64 (no : Int)) rfl (by kernel_rfl) (by kernel_rfl) (by kernel_rfl) (fun _ _ _ h => h) (Or.inl ⟨by rfl, fun w hSw => by go_simp⟩) (by assumption) ?_
            try simp only [Act.put, stA, stB, stC]
            refine wpAnyH_take (i := 6) (oi := ⟨some 53, .fieldAddr 60 (.tmp 7) 3, 0, "files.go:73", #[], none⟩) (v := .pointer (some ⟨b5, 3, none⟩)) rfl (by kernel_rfl) (by kernel_rfl) (by kernel_rfl) (fun _ _ _ h => h) (Or.inl ⟨by rfl, fun w hSw => by go_simp⟩) (by assumption) ?_
            try simp only [Act.put, stA, stB, stC]
            refine wpAnyH_take (i := 7) (oi := ⟨some 54, .load 3 (.tmp 53), 3, "files.go:73", #[⟨6, .data⟩], none⟩) (v := .int .i64 (d.size : Int)) rfl (by kernel_rfl) (by kernel_rfl) (by kernel_rfl) (fun _ _ _ h => h) (Or.inl ⟨by rfl, fun w hSw => by obtain ⟨z0, z1⟩ := hSw; obtain ⟨y0, y1, y2, y3, -⟩ := Frm.cells4 z1; go_simp⟩) (by assumption) ?_
            try simp only [Act.put, stA, stB, stC]
            refine wpAnyH_ready (rs := [5]) (by kernel_rfl) (by simp) ?_
            refine AllReadyH.cons (o := ⟨some 52, .call ⟨.value (.func 26), #[.tmp 51], #[42]⟩, 9, "files.go:73", #[⟨4, .data⟩], none⟩) rfl (fun K hK => ?_) AllReadyH.nil
            go_simp
            refine (name_any wd no HNO.out).mono ?_
            rintro e wx ⟨rfl, rfl⟩
            refine hK.out _ _ (hHeld) (fun hHeld => ?_)
            clear hK K
            try simp only [Act.put, stA, stB, stC]
            skip
            refine wpAnyH_ready (rs := [8]) (by kernel_rfl) (by simp) ?_
            refine AllReadyH.cons (o := ⟨some 55, .call ⟨.value (.func 102), #[.tmp 50, .tmp 52, .tmp 54], #[24, 9, 3]⟩, 27, "files.go:73", #[⟨3, .data⟩, ⟨5, .data⟩, ⟨7, .data⟩, ⟨5, .chain⟩], none⟩) rfl (fun K hK => ?_) AllReadyH.nil
            go_simp
            refine (HCT.out wd HBW.out).mono ?_
            rintro e w9 ⟨rfl, T9, R9, X9⟩
            have hq : w9.cell? ⟨p, 0, none⟩ = some (.pointer (some ⟨q, 0, none⟩)) ∧ w9.heap[b5]? = some (.cells #[.int .u64 (d.no : Int), .int .u64 (d.first : Int), .slice A9 n9 c9, .int .i64 (d.size : Int)] 60) := ⟨(World.cell?_of_block (a := ⟨p, 0, none⟩) (X9.block p (Nat.lt_of_lt_of_le HPL.out.1 HBW.out.size) HPL.out.2)).trans hHeld.1, (X9.block b5 (Array.getElem?_eq_some_iff.1 hHeld.2).1 (HTN.out b5 HB5.out.1)).trans hHeld.2⟩
            have H9 := Lib.hid (And.intro R9 ((ext_below HBW.out T).trans X9))
            have HV9 := Lib.hid ((ext_below HBV.out T).trans X9)
            clear R9 X9
            refine hK.out _ _ (hq) (fun hHeld => ?_)
            clear hK K
            try simp only [Act.put, stA, stB, stC]
            clear hq
            refine wpAnyH_take (i := 9) (oi := ⟨some 6, .assign (.tmp 55), 27, "files.go:73", #[⟨8, .data⟩, ⟨8, .chain⟩, ⟨0, .phase⟩, ⟨1, .phase⟩, ⟨2, .phase⟩, ⟨3, .phase⟩, ⟨4, .phase⟩, ⟨5, .phase⟩, ⟨6, .phase⟩, ⟨7, .phase⟩, ⟨8, .phase⟩], none⟩) (v := .int .i64 (e9 : Int)) rfl (by kernel_rfl) (by kernel_rfl) (by kernel_rfl) (fun _ _ _ h => h) (Or.inl ⟨by rfl, fun w hSw => by go_simp⟩) (by assumption) ?_
            try simp only [Act.put, stA, stB, stC]
            refine wpAnyH_done (by kernel_rfl) ?_ _
            try unfold NoPanic
            have N9 := Lib.hid hHeld.2
            have HLT : Hid (LAt w9 T9 (.slice A9 n9 c9) d.its gl9 ∧ ∀ g, gl9 = some g → w.heap.size ≤ g) := ⟨HL9.out.1.keep (kp_ext HV9.out), HL9.out.2⟩
            have h9 := HH.out.2.1.keep (kp_ext H9.out.2)
            obtain ⟨A2, cap2, hvv⟩ := HH.out.2.1.nil
            have HCV := Lib.hid HH.out.2.1
            have HP6 : Hid (∀ y, Below w9.heap.size w9 y → y.cell? ⟨p, 6, none⟩ = some (.slice A2 c.vols.length cap2)) := fun y hy => by
              rw [← hvv]
              exact (row8 ((hy.block p (Array.getElem?_eq_some_iff.1 h9.row).1).trans h9.row)).2.2.2.2.2.2.1
            have HRP := Lib.hid H9.out.1
            have HTN9 : Hid (∀ b, w9.heap.size ≤ b → T9 b = .none) := fun b hb => rep_old HRP.out hb
            have HPB : Hid (b5 ≠ p) := by have h1 := HB5.out.1; have h2 := HPL.out.1; show b5 ≠ p; omega
            have HGV : Hid (gv ≠ some b5) := fun e => by
              obtain ⟨vs, _, h2, _⟩ := HH.out.2.1.vs
              have := (h2.lt b5 e).1
              have h1 := HB5.out.1
              omega
            clear h9
            rw [hvv] at HCV
            generalize c.vols.length = nv9 at HP6 HCV
            clear hvv
            go_upto_region 10 with (fail)
            have HBW := Lib.hid ((Below.refl w9.heap.size w9).drew)
            refine wp_region_noPanic ?_
            refine wp_region_held_drew (S := fun y : World => y.heap[b5]? = some (.cells #[.int .u64 (d.no : Int), .int .u64 (d.first : Int), .slice A9 n9 c9, .int .i64 (d.size : Int)] 60)) (by kernel_rfl) N9.out (fun hHeld => ?_)
            generalize w9.drew = wd at *
            refine wpAnyH_take (i := 0) (oi := ⟨some 56, .move (.tmp 0), 26, "files.go:75", #[], none⟩) (v := .pointer (some ⟨p, 0, none⟩)) rfl (by kernel_rfl) (by kernel_rfl) (by kernel_rfl) (fun _ _ _ h => h) (Or.inl ⟨by rfl, fun w hSw => by go_simp⟩) (by assumption) ?_
            try simp only [Act.put, stA, stB, stC]
            refine wpAnyH_take (i := 1) (oi := ⟨some 57, .move (.tmp 0), 26, "files.go:75", #[], none⟩) (v := .pointer (some ⟨p, 0, none⟩)) rfl (by kernel_rfl) (by kernel_rfl) (by kernel_rfl) (fun _ _ _ h => h) (Or.inl ⟨by rfl, fun w hSw => by go_simp⟩) (by assumption) ?_
            try simp only [Act.put, stA, stB, stC]
            refine wpAnyH_take (i := 2) (oi := ⟨some 58, .nilCheck (.tmp 57), 0, "files.go:75", #[⟨1, .data⟩], none⟩) (v := .pointer (some ⟨p, 0, none⟩)) rfl (by kernel_rfl) (by kernel_rfl) (by kernel_rfl) (fun _ _ _ h => h) (Or.inl ⟨by rfl, fun w hSw => by go_simp⟩) (by assumption) ?_
            try simp only [Act.put, stA, stB, stC]
            refine wpAnyH_take (i := 3) (oi := ⟨some 59, .fieldAddr 82 (.tmp 58) 4, 0, "files.go:75", #[⟨2, .data⟩], none⟩) (v := .pointer (some ⟨p, 6, none⟩)) rfl (by kernel_rfl) (by kernel_rfl) (by kernel_rfl) (fun _ _ _ h => h) (Or.inl ⟨by rfl, fun w hSw => by go_simp⟩) (by assumption) ?_
            try simp only [Act.put, stA, stB, stC]
            refine wpAnyH_take (i := 5) (oi := ⟨some 61, .load 60 (.tmp 7), 60, "files.go:75", #[], none⟩) (v := .agg #[.int .u64 (d.no : Int), .int .u64 (d.first : Int), .slice A9 n9 c9, .int .i64 (d.size : Int)]) rfl (by kernel_rfl) (by kernel_rfl) (by kernel_rfl) (fun _ _ _ h => h) (Or.inl ⟨by rfl, fun w hSw => by obtain ⟨y0, y1, y2, y3, -⟩ := Frm.cells4 hSw; go_simp⟩) (by assumption) ?_
            try simp only [Act.put, stA, stB, stC]
            refine wpAnyH_ready (rs := [4, 6]) (by kernel_rfl) (by simp) ?_
            refine (AllReadyH.cons (o := ⟨some 60, .load 53 (.tmp 59), 53, "files.go:75", #[⟨3, .data⟩], none⟩) rfl (fun K hK => ?_) (AllReadyH.cons (o := ⟨some 62, .buildSlice 53 1 #[(0, .tmp 61)], 53, "files.go:75", #[⟨5, .data⟩], none⟩) rfl (fun K hK => ?_) AllReadyH.nil))
            · have y6 := HP6.out wd HBW.out
              go_simp
              clear y6
              refine hK.out _ _ (hHeld) (fun hHeld => ?_)
              clear hK K
              try simp only [Act.put, stA, stB, stC]
              skip
              refine wpAnyH_ready (rs := [6]) (by kernel_rfl) (by simp) ?_
              refine AllReadyH.cons (o := ⟨some 62, .buildSlice 53 1 #[(0, .tmp 61)], 53, "files.go:75", #[⟨5, .data⟩], none⟩) rfl (fun K hK => ?_) AllReadyH.nil
              go_simp
              have N6' := heap_alloc_new wd (.cells #[.int .u64 (d.no : Int), .int .u64 (d.first : Int), .slice A9 n9 c9, .int .i64 (d.size : Int)] 60)
              have BW := HBW.out.alloc HBW.out.size (.cells #[.int .u64 (d.no : Int), .int .u64 (d.first : Int), .slice A9 n9 c9, .int .i64 (d.size : Int)] 60)
              have hq := (heap_alloc_old wd (.cells #[.int .u64 (d.no : Int), .int .u64 (d.first : Int), .slice A9 n9 c9, .int .i64 (d.size : Int)] 60) (Array.getElem?_eq_some_iff.1 hHeld).1).trans hHeld
              obtain ⟨k6, hk6⟩ : ∃ k, k = wd.heap.size := ⟨_, rfl⟩
              rw [← hk6] at N6'
              have N6 := Lib.hid N6'
              clear N6' HBW
              have HBW := Lib.hid BW
              generalize wd.alloc (.cells #[.int .u64 (d.no : Int), .int .u64 (d.first : Int), .slice A9 n9 c9, .int .i64 (d.size : Int)] 60) = wd at *
              simp only [← hk6]
              clear hk6
              refine hK.out _ _ (hq) (fun hHeld => ?_)
              clear hK K
              try simp only [Act.put, stA, stB, stC]
              clear hq BW
              refine wpAnyH_ready (rs := [7]) (by kernel_rfl) (by simp) ?_
              refine AllReadyH.cons (o := ⟨some 63, .call ⟨.builtin .append, #[.tmp 60, .tmp 62], #[53, 53]⟩, 53, "files.go:75", #[⟨4, .data⟩, ⟨6, .data⟩], none⟩) rfl (fun K hK => ?_) AllReadyH.nil
              obtain ⟨v7, w7, hrun, ⟨A7, n7, c7, rfl⟩, hb7, ⟨u7, y7⟩, z7, C7, K7, R7⟩ := vol_end HCV.out (Kp.trans (kp_ext H9.out.2) (kp_below HBW.out T9)) d A9 n9 c9 gl9 (HLT.out.1.keep (kp_below HBW.out T9)) HLT.out.2 k6 N6.out (fun b hb => HTN9.out b (Nat.le_trans HBW.out.size hb)) HQ.out.1.n
              refine Lib.wp_append_run _ (.tmp 60) (.tmp 62) 53 53 rfl _ _ rfl rfl _ _ hrun ?_
              have H7 := Lib.hid (And.intro C7 (And.intro K7 (R7 _ (HRP.out.below HBW.out))))
              have hq := (hb7 b5 (Array.getElem?_eq_some_iff.1 hHeld).1 HGV.out).trans hHeld
              clear hb7 C7 K7 R7 hrun
              refine hK.out _ _ (hq) (fun hHeld => ?_)
              clear hK K
              try simp only [Act.put, stA, stB, stC]
              clear hq
              refine wpAnyH_take (i := 8) (oi := ⟨some 64, .nilCheck (.tmp 56), 0, "files.go:75", #[⟨0, .data⟩, ⟨0, .phase⟩, ⟨1, .phase⟩, ⟨2, .phase⟩, ⟨3, .phase⟩, ⟨4, .phase⟩, ⟨5, .phase⟩, ⟨6, .phase⟩, ⟨7, .phase⟩], none⟩) (v := .pointer (some ⟨p, 0, none⟩)) rfl (by kernel_rfl) (by kernel_rfl) (by kernel_rfl) (fun _ _ _ h => h) (Or.inl ⟨by rfl, fun w hSw => by go_simp⟩) (by assumption) ?_
              try simp only [Act.put, stA, stB, stC]
              refine wpAnyH_take (i := 9) (oi := ⟨some 65, .fieldAddr 82 (.tmp 64) 4, 0, "files.go:75", #[⟨8, .data⟩, ⟨0, .phase⟩, ⟨1, .phase⟩, ⟨2, .phase⟩, ⟨3, .phase⟩, ⟨4, .phase⟩, ⟨5, .phase⟩, ⟨6, .phase⟩, ⟨7, .phase⟩], none⟩) (v := .pointer (some ⟨p, 6, none⟩)) rfl (by kernel_rfl) (by kernel_rfl) (by kernel_rfl) (fun _ _ _ h => h) (Or.inl ⟨by rfl, fun w hSw => by go_simp⟩) (by assumption) ?_
              try simp only [Act.put, stA, stB, stC]
              refine wpAnyH_ready (rs := [10]) (by kernel_rfl) (by simp) ?_
              refine AllReadyH.cons (o := ⟨none, .store 53 (.tmp 65) (.tmp 63), 0, "files.go:75", #[⟨9, .data⟩, ⟨7, .data⟩, ⟨7, .chain⟩, ⟨0, .phase⟩, ⟨1, .phase⟩, ⟨2, .phase⟩, ⟨3, .phase⟩, ⟨4, .phase⟩, ⟨5, .phase⟩, ⟨6, .phase⟩, ⟨7, .phase⟩], none⟩) rfl (fun K hK => ?_) AllReadyH.nil
              go_simp
              have hq := (heap_setCell_other w7 ⟨p, 6, none⟩ b5 (.slice A7 n7 c7) HPB.out).trans hHeld
              generalize w7.setCell ⟨p, 6, none⟩ (.slice A7 n7 c7) = w8 at *
              clear y7 z7
              refine hK.out _ _ (hq) (fun hHeld => ?_)
              clear hK K
              try simp only [Act.put, stA, stB, stC]
              clear hq
              refine wpAnyH_done (by kernel_rfl) ?_ _
              try unfold NoPanic
              go_wp2
              go_ret2
              exact ⟨decide (e9 = 0), e9, _, _, T9, (by first | rfl | (show Ending.returned (.tuple #[.bool ((e9 : Int) == 0), .int .i64 (e9 : Int)]) = _; rw [beq_dec e9])), Or.inr (Or.inr ⟨HRE.out, d, by rw [← HNN.out.1, ← HNN.out.2.1]; exact HV.out.1, HV.out.2, HND.out.trans HNN.out.1, HFO.out.symm, by rw [← HNN.out.1, ← HNN.out.2.1]; exact HSZ.out, rfl, rfl, Or.inl ⟨by rw [← HNN.out.1, ← HNN.out.2.1, ← HNN.out.2.2.2]; exact HCE.out.2, by rw [← HNN.out.1]; exact HCE.out.1, by rw [← HNN.out.1]⟩⟩), H7.out.2.2, H7.out.1, H7.out.2.1⟩
            · go_simp
              have N6' := heap_alloc_new wd (.cells #[.int .u64 (d.no : Int), .int .u64 (d.first : Int), .slice A9 n9 c9, .int .i64 (d.size : Int)] 60)
              have BW := HBW.out.alloc HBW.out.size (.cells #[.int .u64 (d.no : Int), .int .u64 (d.first : Int), .slice A9 n9 c9, .int .i64 (d.size : Int)] 60)
              have hq := (heap_alloc_old wd (.cells #[.int .u64 (d.no : Int), .int .u64 (d.first : Int), .slice A9 n9 c9, .int .i64 (d.size : Int)] 60) (Array.getElem?_eq_some_iff.1 hHeld).1).trans hHeld
              obtain ⟨k6, hk6⟩ : ∃ k, k = wd.heap.size := ⟨_, rfl⟩
              rw [← hk6] at N6'
              have N6 := Lib.hid N6'
              clear N6' HBW
              have HBW := Lib.hid BW
              generalize wd.alloc (.cells #[.int .u64 (d.no : Int), .int .u64 (d.first : Int), .slice A9 n9 c9, .int .i64 (d.size : Int)] 60) = wd at *
              simp only [← hk6]
              clear hk6
              refine hK.out _ _ (hq) (fun hHeld => ?_)
              clear hK K
              try simp only [Act.put, stA, stB, stC]
              clear hq BW
              refine wpAnyH_ready (rs := [4]) (by kernel_rfl) (by simp) ?_
              refine AllReadyH.cons (o := ⟨some 60, .load 53 (.tmp 59), 53, "files.go:75", #[⟨3, .data⟩], none⟩) rfl (fun K hK => ?_) AllReadyH.nil
              have y6 := HP6.out wd HBW.out
              go_simp
              clear y6
              refine hK.out _ _ (hHeld) (fun hHeld => ?_)
              clear hK K
              try simp only [Act.put, stA, stB, stC]
              skip
              refine wpAnyH_ready (rs := [7]) (by kernel_rfl) (by simp) ?_
              refine AllReadyH.cons (o := ⟨some 63, .call ⟨.builtin .append, #[.tmp 60, .tmp 62], #[53, 53]⟩, 53, "files.go:75", #[⟨4, .data⟩, ⟨6, .data⟩], none⟩) rfl (fun K hK => ?_) AllReadyH.nil
              obtain ⟨v7, w7, hrun, ⟨A7, n7, c7, rfl⟩, hb7, ⟨u7, y7⟩, z7, C7, K7, R7⟩ := vol_end HCV.out (Kp.trans (kp_ext H9.out.2) (kp_below HBW.out T9)) d A9 n9 c9 gl9 (HLT.out.1.keep (kp_below HBW.out T9)) HLT.out.2 k6 N6.out (fun b hb => HTN9.out b (Nat.le_trans HBW.out.size hb)) HQ.out.1.n
              refine Lib.wp_append_run _ (.tmp 60) (.tmp 62) 53 53 rfl _ _ rfl rfl _ _ hrun ?_
              have H7 := Lib.hid (And.intro C7 (And.intro K7 (R7 _ (HRP.out.below HBW.out))))
              have hq := (hb7 b5 (Array.getElem?_eq_some_iff.1 hHeld).1 HGV.out).trans hHeld
              clear hb7 C7 K7 R7 hrun
              refine hK.out _ _ (hq) (fun hHeld => ?_)
              clear hK K
              try simp only [Act.put, stA, stB, stC]
              clear hq
              refine wpAnyH_take (i := 8) (oi := ⟨some 64, .nilCheck (.tmp 56), 0, "files.go:75", #[⟨0, .data⟩, ⟨0, .phase⟩, ⟨1, .phase⟩, ⟨2, .phase⟩, ⟨3, .phase⟩, ⟨4, .phase⟩, ⟨5, .phase⟩, ⟨6, .phase⟩, ⟨7, .phase⟩], none⟩) (v := .pointer (some ⟨p, 0, none⟩)) rfl (by kernel_rfl) (by kernel_rfl) (by kernel_rfl) (fun _ _ _ h => h) (Or.inl ⟨by rfl, fun w hSw => by go_simp⟩) (by assumption) ?_
              try simp only [Act.put, stA, stB, stC]
              refine wpAnyH_take (i := 9) (oi := ⟨some 65, .fieldAddr 82 (.tmp 64) 4, 0, "files.go:75", #[⟨8, .data⟩, ⟨0, .phase⟩, ⟨1, .phase⟩, ⟨2, .phase⟩, ⟨3, .phase⟩, ⟨4, .phase⟩, ⟨5, .phase⟩, ⟨6, .phase⟩, ⟨7, .phase⟩], none⟩) (v := .pointer (some ⟨p, 6, none⟩)) rfl (by kernel_rfl) (by kernel_rfl) (by kernel_rfl) (fun _ _ _ h => h) (Or.inl ⟨by rfl, fun w hSw => by go_simp⟩) (by assumption) ?_
              try simp only [Act.put, stA, stB, stC]
              refine wpAnyH_ready (rs := [10]) (by kernel_rfl) (by simp) ?_
              refine AllReadyH.cons (o := ⟨none, .store 53 (.tmp 65) (.tmp 63), 0, "files.go:75", #[⟨9, .data⟩, ⟨7, .data⟩, ⟨7, .chain⟩, ⟨0, .phase⟩, ⟨1, .phase⟩, ⟨2, .phase⟩, ⟨3, .phase⟩, ⟨4, .phase⟩, ⟨5, .phase⟩, ⟨6, .phase⟩, ⟨7, .phase⟩], none⟩) rfl (fun K hK => ?_) AllReadyH.nil
              go_simp
              have hq := (heap_setCell_other w7 ⟨p, 6, none⟩ b5 (.slice A7 n7 c7) HPB.out).trans hHeld
              generalize w7.setCell ⟨p, 6, none⟩ (.slice A7 n7 c7) = w8 at *
              clear y7 z7
              refine hK.out _ _ (hq) (fun hHeld => ?_)
              clear hK K
              try simp only [Act.put, stA, stB, stC]
              clear hq
              refine wpAnyH_done (by kernel_rfl) ?_ _
              try unfold NoPanic
              go_wp2
              go_ret2
              exact ⟨decide (e9 = 0), e9, _, _, T9, (by first | rfl | (show Ending.returned (.tuple #[.bool ((e9 : Int) == 0), .int .i64 (e9 : Int)]) = _; rw [beq_dec e9])), Or.inr (Or.inr ⟨HRE.out, d, by rw [← HNN.out.1, ← HNN.out.2.1]; exact HV.out.1, HV.out.2, HND.out.trans HNN.out.1, HFO.out.symm, by rw [← HNN.out.1, ← HNN.out.2.1]; exact HSZ.out, rfl, rfl, Or.inl ⟨by rw [← HNN.out.1, ← HNN.out.2.1, ← HNN.out.2.2.2]; exact HCE.out.2, by rw [← HNN.out.1]; exact HCE.out.1, by rw [← HNN.out.1]⟩⟩), H7.out.2.2, H7.out.1, H7.out.2.1⟩
          · have hlt' : ¬ (d.size : Int) < n := by omega
            have HLT := HL9
            have N9 := N5
            have HNL := Lib.hid hlt
            clear hlt
            have h9 := HH.out.2.1.keep (kp_below HB5.out.2 T)
            obtain ⟨A2, cap2, hvv⟩ := HH.out.2.1.nil
            have HCV := Lib.hid HH.out.2.1
            have HP6 : Hid (∀ y, Below w6.heap.size w6 y → y.cell? ⟨p, 6, none⟩ = some (.slice A2 c.vols.length cap2)) := fun y hy => by
              rw [← hvv]
              exact (row8 ((hy.block p (Array.getElem?_eq_some_iff.1 h9.row).1).trans h9.row)).2.2.2.2.2.2.1
            have HRP := Lib.hid (HH.out.1.below HB5.out.2)
            have HTN9 : Hid (∀ b, w6.heap.size ≤ b → T b = .none) := fun b hb => rep_old HRP.out hb
            have HPB : Hid (b5 ≠ p) := by have h1 := HB5.out.1; have h2 := HPL.out.1; show b5 ≠ p; omega
            have HGV : Hid (gv ≠ some b5) := fun e => by
              obtain ⟨vs, _, h2, _⟩ := HH.out.2.1.vs
              have := (h2.lt b5 e).1
              have h1 := HB5.out.1
              omega
            clear h9
            rw [hvv] at HCV
            generalize c.vols.length = nv9 at HP6 HCV
            clear hvv
            go_upto_region 10 with (fail)
            have HBW := Lib.hid ((Below.refl w6.heap.size w6).drew)
            refine wp_region_noPanic ?_
            refine wp_region_held_drew (S := fun y : World => y.heap[b5]? = some (.cells #[.int .u64 (d.no : Int), .int .u64 (d.first : Int), .slice A9 n9 c9, .int .i64 (d.size : Int)] 60)) (by kernel_rfl) N9.out (fun hHeld => ?_)
            generalize w6.drew = wd at *
            refine wpAnyH_take (i := 0) (oi := ⟨some 56, .move (.tmp 0), 26, "files.go:75", #[], none⟩) (v := .pointer (some ⟨p, 0, none⟩)) rfl (by kernel_rfl) (by kernel_rfl) (by kernel_rfl) (fun _ _ _ h => h) (Or.inl ⟨by rfl, fun w hSw => by go_simp⟩) (by assumption) ?_
            try simp only [Act.put, stA, stB, stC]
            refine wpAnyH_take (i := 1) (oi := ⟨some 57, .move (.tmp 0), 26, "files.go:75", #[], none⟩) (v := .pointer (some ⟨p, 0, none⟩)) rfl (by kernel_rfl) (by kernel_rfl) (by kernel_rfl) (fun _ _ _ h => h) (Or.inl ⟨by rfl, fun w hSw => by go_simp⟩) (by assumption) ?_
            try simp only [Act.put, stA, stB, stC]
            refine wpAnyH_take (i := 2) (oi := ⟨some 58, .nilCheck (.tmp 57), 0, "files.go:75", #[⟨1, .data⟩], none⟩) (v := .pointer (some ⟨p, 0, none⟩)) rfl (by kernel_rfl) (by kernel_rfl) (by kernel_rfl) (fun _ _ _ h => h) (Or.inl ⟨by rfl, fun w hSw => by go_simp⟩) (by assumption) ?_
            try simp only [Act.put, stA, stB, stC]
            refine wpAnyH_take (i := 3) (oi := ⟨some 59, .fieldAddr 82 (.tmp 58) 4, 0, "files.go:75", #[⟨2, .data⟩], none⟩) (v := .pointer (some ⟨p, 6, none⟩)) rfl (by kernel_rfl) (by kernel_rfl) (by kernel_rfl) (fun _ _ _ h => h) (Or.inl ⟨by rfl, fun w hSw => by go_simp⟩) (by assumption) ?_
            try simp only [Act.put, stA, stB, stC]
            refine wpAnyH_take (i := 5) (oi := ⟨some 61, .load 60 (.tmp 7), 60, "files.go:75", #[], none⟩) (v := .agg #[.int .u64 (d.no : Int), .int .u64 (d.first : Int), .slice A9 n9 c9, .int .i64 (d.size : Int)]) rfl (by kernel_rfl) (by kernel_rfl) (by kernel_rfl) (fun _ _ _ h => h) (Or.inl ⟨by rfl, fun w hSw => by obtain ⟨y0, y1, y2, y3, -⟩ := Frm.cells4 hSw; go_simp⟩) (by assumption) ?_
            try simp only [Act.put, stA, stB, stC]
            refine wpAnyH_ready (rs := [4, 6]) (by kernel_rfl) (by simp) ?_
            refine (AllReadyH.cons (o := ⟨some 60, .load 53 (.tmp 59), 53, "files.go:75", #[⟨3, .data⟩], none⟩) rfl (fun K hK => ?_) (AllReadyH.cons (o := ⟨some 62, .buildSlice 53 1 #[(0, .tmp 61)], 53, "files.go:75", #[⟨5, .data⟩], none⟩) rfl (fun K hK => ?_) AllReadyH.nil))
            · have y6 := HP6.out wd HBW.out
              go_simp
              clear y6
              refine hK.out _ _ (hHeld) (fun hHeld => ?_)
              clear hK K
              try simp only [Act.put, stA, stB, stC]
              skip
              refine wpAnyH_ready (rs := [6]) (by kernel_rfl) (by simp) ?_
              refine AllReadyH.cons (o := ⟨some 62, .buildSlice 53 1 #[(0, .tmp 61)], 53, "files.go:75", #[⟨5, .data⟩], none⟩) rfl (fun K hK => ?_) AllReadyH.nil
              go_simp
              have N6' := heap_alloc_new wd (.cells #[.int .u64 (d.no : Int), .int .u64 (d.first : Int), .slice A9 n9 c9, .int .i64 (d.size : Int)] 60)
              have BW := HBW.out.alloc HBW.out.size (.cells #[.int .u64 (d.no : Int), .int .u64 (d.first : Int), .slice A9 n9 c9, .int .i64 (d.size : Int)] 60)
              have hq := (heap_alloc_old wd (.cells #[.int .u64 (d.no : Int), .int .u64 (d.first : Int), .slice A9 n9 c9, .int .i64 (d.size : Int)] 60) (Array.getElem?_eq_some_iff.1 hHeld).1).trans hHeld
              obtain ⟨k6, hk6⟩ : ∃ k, k = wd.heap.size := ⟨_, rfl⟩
              rw [← hk6] at N6'
              have N6 := Lib.hid N6'
              clear N6' HBW
              have HBW := Lib.hid BW
              generalize wd.alloc (.cells #[.int .u64 (d.no : Int), .int .u64 (d.first : Int), .slice A9 n9 c9, .int .i64 (d.size : Int)] 60) = wd at *
              simp only [← hk6]
              clear hk6
              refine hK.out _ _ (hq) (fun hHeld => ?_)
              clear hK K
              try simp only [Act.put, stA, stB, stC]
              clear hq BW
              refine wpAnyH_ready (rs := [7]) (by kernel_rfl) (by simp) ?_
              refine AllReadyH.cons (o := ⟨some 63, .call ⟨.builtin .append, #[.tmp 60, .tmp 62], #[53, 53]⟩, 53, "files.go:75", #[⟨4, .data⟩, ⟨6, .data⟩], none⟩) rfl (fun K hK => ?_) AllReadyH.nil
              obtain ⟨v7, w7, hrun, ⟨A7, n7, c7, rfl⟩, hb7, ⟨u7, y7⟩, z7, C7, K7, R7⟩ := vol_end HCV.out (Kp.trans (kp_below HB5.out.2 T) (kp_below HBW.out T)) d A9 n9 c9 gl9 (HLT.out.1.keep (kp_below HBW.out T)) HLT.out.2 k6 N6.out (fun b hb => HTN9.out b (Nat.le_trans HBW.out.size hb)) HQ.out.1.n
              refine Lib.wp_append_run _ (.tmp 60) (.tmp 62) 53 53 rfl _ _ rfl rfl _ _ hrun ?_
              have H7 := Lib.hid (And.intro C7 (And.intro K7 (R7 _ (HRP.out.below HBW.out))))
              have hq := (hb7 b5 (Array.getElem?_eq_some_iff.1 hHeld).1 HGV.out).trans hHeld
              clear hb7 C7 K7 R7 hrun
              refine hK.out _ _ (hq) (fun hHeld => ?_)
              clear hK K
              try simp only [Act.put, stA, stB, stC]
              clear hq
              refine wpAnyH_take (i := 8) (oi := ⟨some 64, .nilCheck (.tmp 56), 0, "files.go:75", #[⟨0, .data⟩, ⟨0, .phase⟩, ⟨1, .phase⟩, ⟨2, .phase⟩, ⟨3, .phase⟩, ⟨4, .phase⟩, ⟨5, .phase⟩, ⟨6, .phase⟩, ⟨7, .phase⟩], none⟩) (v := .pointer (some ⟨p, 0, none⟩)) rfl (by kernel_rfl) (by kernel_rfl) (by kernel_rfl) (fun _ _ _ h => h) (Or.inl ⟨by rfl, fun w hSw => by go_simp⟩) (by assumption) ?_
              try simp only [Act.put, stA, stB, stC]
              refine wpAnyH_take (i := 9) (oi := ⟨some 65, .fieldAddr 82 (.tmp 64) 4, 0, "files.go:75", #[⟨8, .data⟩, ⟨0, .phase⟩, ⟨1, .phase⟩, ⟨2, .phase⟩, ⟨3, .phase⟩, ⟨4, .phase⟩, ⟨5, .phase⟩, ⟨6, .phase⟩, ⟨7, .phase⟩], none⟩) (v := .pointer (some ⟨p, 6, none⟩)) rfl (by kernel_rfl) (by kernel_rfl) (by kernel_rfl) (fun _ _ _ h => h) (Or.inl ⟨by rfl, fun w hSw => by go_simp⟩) (by assumption) ?_
              try simp only [Act.put, stA, stB, stC]
              refine wpAnyH_ready (rs := [10]) (by kernel_rfl) (by simp) ?_
              refine AllReadyH.cons (o := ⟨none, .store 53 (.tmp 65) (.tmp 63), 0, "files.go:75", #[⟨9, .data⟩, ⟨7, .data⟩, ⟨7, .chain⟩, ⟨0, .phase⟩, ⟨1, .phase⟩, ⟨2, .phase⟩, ⟨3, .phase⟩, ⟨4, .phase⟩, ⟨5, .phase⟩, ⟨6, .phase⟩, ⟨7, .phase⟩], none⟩) rfl (fun K hK => ?_) AllReadyH.nil
              go_simp
              have hq := (heap_setCell_other w7 ⟨p, 6, none⟩ b5 (.slice A7 n7 c7) HPB.out).trans hHeld
              generalize w7.setCell ⟨p, 6, none⟩ (.slice A7 n7 c7) = w8 at *
              clear y7 z7
              refine hK.out _ _ (hq) (fun hHeld => ?_)
              clear hK K
              try simp only [Act.put, stA, stB, stC]
              clear hq
              refine wpAnyH_done (by kernel_rfl) ?_ _
              try unfold NoPanic
              go_wp2
              go_ret2
              exact ⟨true, 0, m, _, T, rfl, Or.inr (Or.inr ⟨HRE.out, d, by rw [← HNN.out.1, ← HNN.out.2.1]; exact HV.out.1, HV.out.2, HND.out.trans HNN.out.1, HFO.out.symm, by rw [← HNN.out.1, ← HNN.out.2.1]; exact HSZ.out, rfl, rfl, Or.inr ⟨by rw [← HNN.out.1, ← HNN.out.2.1, ← HNN.out.2.2.2]; exact HNL.out, rfl, rfl⟩⟩), H7.out.2.2, H7.out.1, H7.out.2.1⟩
            · go_simp
              have N6' := heap_alloc_new wd (.cells #[.int .u64 (d.no : Int), .int .u64 (d.first : Int), .slice A9 n9 c9, .int .i64 (d.size : Int)] 60)
              have BW := HBW.out.alloc HBW.out.size (.cells #[.int .u64 (d.no : Int), .int .u64 (d.first : Int), .slice A9 n9 c9, .int .i64 (d.size : Int)] 60)
              have hq := (heap_alloc_old wd (.cells #[.int .u64 (d.no : Int), .int .u64 (d.first : Int), .slice A9 n9 c9, .int .i64 (d.size : Int)] 60) (Array.getElem?_eq_some_iff.1 hHeld).1).trans hHeld
              obtain ⟨k6, hk6⟩ : ∃ k, k = wd.heap.size := ⟨_, rfl⟩
              rw [← hk6] at N6'
              have N6 := Lib.hid N6'
              clear N6' HBW
              have HBW := Lib.hid BW
              generalize wd.alloc (.cells #[.int .u64 (d.no : Int), .int .u64 (d.first : Int), .slice A9 n9 c9, .int .i64 (d.size : Int)] 60) = wd at *
              simp only [← hk6]
              clear hk6
              refine hK.out _ _ (hq) (fun hHeld => ?_)
              clear hK K
              try simp only [Act.put, stA, stB, stC]
              clear hq BW
              refine wpAnyH_ready (rs := [4]) (by kernel_rfl) (by simp) ?_
              refine AllReadyH.cons (o := ⟨some 60, .load 53 (.tmp 59), 53, "files.go:75", #[⟨3, .data⟩], none⟩) rfl (fun K hK => ?_) AllReadyH.nil
              have y6 := HP6.out wd HBW.out
              go_simp
              clear y6
              refine hK.out _ _ (hHeld) (fun hHeld => ?_)
              clear hK K
              try simp only [Act.put, stA, stB, stC]
              skip
              refine wpAnyH_ready (rs := [7]) (by kernel_rfl) (by simp) ?_
              refine AllReadyH.cons (o := ⟨some 63, .call ⟨.builtin .append, #[.tmp 60, .tmp 62], #[53, 53]⟩, 53, "files.go:75", #[⟨4, .data⟩, ⟨6, .data⟩], none⟩) rfl (fun K hK => ?_) AllReadyH.nil
              obtain ⟨v7, w7, hrun, ⟨A7, n7, c7, rfl⟩, hb7, ⟨u7, y7⟩, z7, C7, K7, R7⟩ := vol_end HCV.out (Kp.trans (kp_below HB5.out.2 T) (kp_below HBW.out T)) d A9 n9 c9 gl9 (HLT.out.1.keep (kp_below HBW.out T)) HLT.out.2 k6 N6.out (fun b hb => HTN9.out b (Nat.le_trans HBW.out.size hb)) HQ.out.1.n
              refine Lib.wp_append_run _ (.tmp 60) (.tmp 62) 53 53 rfl _ _ rfl rfl _ _ hrun ?_
              have H7 := Lib.hid (And.intro C7 (And.intro K7 (R7 _ (HRP.out.below HBW.out))))
              have hq := (hb7 b5 (Array.getElem?_eq_some_iff.1 hHeld).1 HGV.out).trans hHeld
              clear hb7 C7 K7 R7 hrun
              refine hK.out _ _ (hq) (fun hHeld => ?_)
              clear hK K
              try simp only [Act.put, stA, stB, stC]
              clear hq
              refine wpAnyH_take (i := 8) (oi := ⟨some 64, .nilCheck (.tmp 56), 0, "files.go:75", #[⟨0, .data⟩, ⟨0, .phase⟩, ⟨1, .phase⟩, ⟨2, .phase⟩, ⟨3, .phase⟩, ⟨4, .phase⟩, ⟨5, .phase⟩, ⟨6, .phase⟩, ⟨7, .phase⟩], none⟩) (v := .pointer (some ⟨p, 0, none⟩)) rfl (by kernel_rfl) (by kernel_rfl) (by kernel_rfl) (fun _ _ _ h => h) (Or.inl ⟨by rfl, fun w hSw => by go_simp⟩) (by assumption) ?_
              try simp only [Act.put, stA, stB, stC]
              refine wpAnyH_take (i := 9) (oi := ⟨some 65, .fieldAddr 82 (.tmp 64) 4, 0, "files.go:75", #[⟨8, .data⟩, ⟨0, .phase⟩, ⟨1, .phase⟩, ⟨2, .phase⟩, ⟨3, .phase⟩, ⟨4, .phase⟩, ⟨5, .phase⟩, ⟨6, .phase⟩, ⟨7, .phase⟩], none⟩) (v := .pointer (some ⟨p, 6, none⟩)) rfl (by kernel_rfl) (by kernel_rfl) (by kernel_rfl) (fun _ _ _ h => h) (Or.inl ⟨by rfl, fun w hSw => by go_simp⟩) (by assumption) ?_
              try simp only [Act.put, stA, stB, stC]
              refine wpAnyH_ready (rs := [10]) (by kernel_rfl) (by simp) ?_
              refine AllReadyH.cons (o := ⟨none, .store 53 (.tmp 65) (.tmp 63), 0, "files.go:75", #[⟨9, .data⟩, ⟨7, .data⟩, ⟨7, .chain⟩, ⟨0, .phase⟩, ⟨1, .phase⟩, ⟨2, .phase⟩, ⟨3, .phase⟩, ⟨4, .phase⟩, ⟨5, .phase⟩, ⟨6, .phase⟩, ⟨7, .phase⟩], none⟩) rfl (fun K hK => ?_) AllReadyH.nil
              go_simp
              have hq := (heap_setCell_other w7 ⟨p, 6, none⟩ b5 (.slice A7 n7 c7) HPB.out).trans hHeld
              generalize w7.setCell ⟨p, 6, none⟩ (.slice A7 n7 c7) = w8 at *
              clear y7 z7
              refine hK.out _ _ (hq) (fun hHeld => ?_)
              clear hK K
              try simp only [Act.put, stA, stB, stC]
              clear hq
              refine wpAnyH_done (by kernel_rfl) ?_ _
              try unfold NoPanic
              go_wp2
              go_ret2
              exact ⟨true, 0, m, _, T, rfl, Or.inr (Or.inr ⟨HRE.out, d, by rw [← HNN.out.1, ← HNN.out.2.1]; exact HV.out.1, HV.out.2, HND.out.trans HNN.out.1, HFO.out.symm, by rw [← HNN.out.1, ← HNN.out.2.1]; exact HSZ.out, rfl, rfl, Or.inr ⟨by rw [← HNN.out.1, ← HNN.out.2.1, ← HNN.out.2.2.2]; exact HNL.out, rfl, rfl⟩⟩), H7.out.2.2, H7.out.1, H7.out.2.1⟩
      · have hno' : ¬ (d.no : Int) = no := by omega
        have HND := Lib.hid hno
        clear hno
        go_wp2
        go_ret2
        exact HSAME.out w5 HB5.out.2 (HNONE.out fun d' hd' hx => by
          have e := volIs_one hd' (H4.out.2.2.2.2.1 (by first | rfl | trivial)).1
          rw [e, ← HNN.out.1] at hx
          exact HND.out hx.2.1)
  · have h0' : ¬ (re : Int) = 0 := by omega
    have hre0 : m.readE (vName c.nextNo) ≠ 0 := by rw [← HNN.out.1, ← HNN.out.2.2.1]; exact h0
    have HRE := Lib.hid hre0
    clear h0 hre0
    go_wp2
    go_ret2
    exact HSAME.out w3 H3.out.2.2.2 (Or.inl ⟨HRE.out, rfl, rfl, rfl, rfl⟩)
end Go.Proofs.YtdbhgkbmbbjpdaaGreatDoor.Chr
