/- What a router tells. -/
import Derived.Test.YtjbogjbopgcbhaaGreatDoorYP
namespace Go.Proofs.YtjbogjbopgcbhaaGreatDoor.Eg
open Pre Ser Rts
open Go.Proofs.YtjbogjbopgcbhaaGreatDoor.Src (row1 row2 Mk SrcAt)
open Go.Proofs.YtjbogjbopgcbhaaGreatDoor.Lk (LkAt)
open Go.ChangeShapes Go.WideShapes Go.ChangeAt Go.RowKit
set_option maxRecDepth 8000
set_option linter.unusedVariables false
set_option linter.unusedSimpArgs false
open Go.Proofs.YtjbogjbopgcbhaaGreatDoor.Src (pv mv pA pN)
set_option linter.unusedSimpArgs false
def Eng.tellP (e : Eng) (now : Nat) (L : List Rw) : List Pt := (if now % 2 = 0 then ⟨1, e.he, 0, 0, 0, 0, 0⟩ :: e.heard (fun l => Lk.recv l.c) else []) ++ (if e.due = true ∨ now % 8 = 0 then e.upds L else []) ++ e.rq
def Eng.tellE (e : Eng) (now : Nat) : Eng := { e with he := (if now % 2 = 0 then e.he + 1 else e.he), due := false, lost := (if e.due = true ∨ now % 8 = 0 then [] else e.lost), rq := [] }
theorem own_open {w : World} {B : Nat} {v : Value} {l : List Pt} (h : GOwn 32 7 Pt.cl w B v l) : ∃ A c n, v = .slice A n c ∧ GSl 7 Pt.cl w A l ∧ n = l.length ∧ (A = none → c = 0) := by
  obtain ⟨A, c, hv, -, hs, -⟩ := gsl_of h (fun _ => rfl)
  refine ⟨A, c, _, hv, hs, rfl, fun h9 => ?_⟩
  rcases h.2 with ⟨h8, -⟩ | ⟨g, cap, cur, h8, -⟩
  · rw [hv] at h8; injection h8
  · rw [hv, h9] at h8; injection h8 with h7; cases h7
theorem x_nolost {m : Mem} {q : Nat} : ∀ k, ({ m with vl := .slice none 0 0 } : Mem).X q k → m.X q k := fun k hk => by
  rcases hk with h1 | h1 | h1 | h1 | h1 | h1 | h1 | h1 | h1 | h1
  · exact .inl h1
  · exact .inr (.inl h1)
  · exact .inr (.inr (.inl h1))
  · exact .inr (.inr (.inr (.inl h1)))
  · exact .inr (.inr (.inr (.inr (.inl h1))))
  · exact .inr (.inr (.inr (.inr (.inr (.inl h1)))))
  · exact .inr (.inr (.inr (.inr (.inr (.inr (.inl h1))))))
  · exact .inr (.inr (.inr (.inr (.inr (.inr (.inr (.inl h1)))))))
  · cases h1
  · exact .inr (.inr (.inr (.inr (.inr (.inr (.inr (.inr (.inr h1))))))))
theorem tell_last {lo : Nat} {w : World} {q : Nat} {m : Mem} {e : Eng} {A : Option Addr} {n c : Nat} {l : List Pt} {W : World} (h : TI lo (w.alloc (.cells #[.int .i64 0, .slice none 0 0] 36)) q m e A n c l W) (hx : ¬ m.X q w.heap.size) (hr : (w.alloc (.cells #[.int .i64 0, .slice none 0 0] 36)).heap[w.heap.size]? = some (.cells #[.int .i64 0, .slice none 0 0] 36 (0, 0))) (y0 y1 : Value) :
    (∃ m', EngAt lo ((W.setCell ⟨w.heap.size, 0, none⟩ y0).setCell ⟨w.heap.size, 1, none⟩ y1) q e m' ∧ Ef lo (m.X q) w ((W.setCell ⟨w.heap.size, 0, none⟩ y0).setCell ⟨w.heap.size, 1, none⟩ y1) ∧ (∀ k, m'.X q k → m.X q k ∨ w.heap.size ≤ k) ∧ m'.ls = m.ls) ∧ e.Ok := by
  obtain ⟨m', hE, hX, hl⟩ := h.ex
  have F : Fr (fun k => k = w.heap.size) W ((W.setCell ⟨w.heap.size, 0, none⟩ y0).setCell ⟨w.heap.size, 1, none⟩ y1) := Fr.grown (grown2 W w.heap.size y0 y1) (fun k e => (Option.some.inj e).symm)
  have hrow := h.f.cells _ _ _ _ hr (by decide) hx
  have hlo : lo ≤ w.heap.size := Nat.le_trans hE.le (by
    have h1 := h.h0 q (hX q (Or.inl rfl))
    have h2 : q ≠ w.heap.size := fun e9 => hx (e9 ▸ hX q (Or.inl rfl))
    simp at h1; omega)
  have BA := (Below.refl w.heap.size w).alloc (Nat.le_refl _) (.cells #[.int .i64 0, .slice none 0 0] 36)
  refine ⟨⟨m', hE.fr F (fun k hk e9 => hx (e9 ▸ hX k hk)) (fun b es cl hb e9 => by rw [e9, hrow] at hb; cases hb) (fun e9 => by have := hE.p.lo0; omega), ?_, fun k hk => Or.inl (hX k hk), hl⟩, h.ok⟩
  exact Ef.trans (Ef.trans (Ef.of (X := m.X q) BA hlo) h.f (fun k hk => Or.inl hk)) (Ef.frm (X := fun k => k = w.heap.size) F hE.los (fun k hk => hk ▸ hlo) (fun k h => h)) (fun k hk => Or.inr (by rw [hk]; exact Nat.le_refl _))
theorem tell_own {lo : Nat} {w : World} {q : Nat} {m : Mem} {e : Eng} {A : Option Addr} {n c : Nat} {l : List Pt} {W : World} (h : TI lo (w.alloc (.cells #[.int .i64 0, .slice none 0 0] 36)) q m e A n c l W) (hr : (w.alloc (.cells #[.int .i64 0, .slice none 0 0] 36)).heap[w.heap.size]? = some (.cells #[.int .i64 0, .slice none 0 0] 36 (0, 0))) (hx : ¬ m.X q w.heap.size) (y0 y1 : Value) :
    GOwn 32 7 Pt.cl ((W.setCell ⟨w.heap.size, 0, none⟩ y0).setCell ⟨w.heap.size, 1, none⟩ y1) w.heap.size (.slice A n c) l := by
  have F : Fr (fun k => k = w.heap.size) W ((W.setCell ⟨w.heap.size, 0, none⟩ y0).setCell ⟨w.heap.size, 1, none⟩ y1) := Fr.grown (grown2 W w.heap.size y0 y1) (fun k e => (Option.some.inj e).symm)
  refine gtop (gfr h.own F fun b e9 e8 => ?_) (by simp)
  have h1 := (h.own.lt e9).1
  simp at h1
  omega
set_option maxHeartbeats 16000000 in
theorem tellp_any (w : World) (lo q : Nat) (e : Eng) (m : Mem) (h : EngAt lo w q e m) (hok : e.Ok) (hhe : e.he ≤ 900000) (hll : e.lost.length ≤ 400) (now : Nat) (AR : Option Addr) (kr cr : Nat) (L : List Rw) (hk : kr = L.length) (hkl : kr ≤ 1000) (hsr : GSl 10 Rw.cl w AR L) (hAR : ∀ b o, AR = some ⟨b, o, none⟩ → ¬ m.X q b ∧ ∃ x t, t ≠ 167 ∧ w.heap[b]? = some (.cells x t (0, 0))) :
    Calls Tryz.prog 24 #[.pointer (some ⟨q, 0, none⟩), .int .u64 (now : Int), .slice AR kr cr] w fun en w' => ∃ A n c, en = .returned (.tuple #[.agg #[.int .i64 ((if e.tellP now L = [] then 0 else e.id : Nat) : Int), .slice A n c], .bool (decide (e.tellP now L ≠ []))]) ∧ n = (e.tellP now L).length ∧ GOwn 32 7 Pt.cl w' w.heap.size (.slice A n c) (e.tellP now L) ∧ (∃ m', EngAt lo w' q (e.tellE now) m' ∧ Ef lo (m.X q) w w' ∧ (∀ k, m'.X q k → m.X q k ∨ w.heap.size ≤ k) ∧ m'.ls = m.ls) ∧ (e.tellE now).Ok := by
  have BA := (Below.refl w.heap.size w).alloc (Nat.le_refl _) (.cells #[.int .i64 0, .slice none 0 0] 36)
  have r0 := heap_alloc_new w (.cells #[.int .i64 0, .slice none 0 0] 36)
  have HROW : Hid (∀ W, Ef lo (m.X q) (w.alloc (.cells #[.int .i64 0, .slice none 0 0] 36)) W → GSl 10 Rw.cl W AR L) := Lib.hid fun W F j hj => by
    obtain ⟨b, o, e9, hb, hc⟩ := hsr j hj
    obtain ⟨hx, x, t, ht, hr⟩ := hAR b o e9
    have h1 := F.cells _ _ _ _ (brow BA hr) ht hx
    exact ⟨b, o, e9, (Array.getElem?_eq_some_iff.1 h1).1, fun i hi => (World.cell?_of_block (a := ⟨b, o + j * 10 + i, none⟩) (h1.trans hr.symm)).trans (hc i hi)⟩
  have H1 : Hid (TI lo (w.alloc (.cells #[.int .i64 0, .slice none 0 0] 36)) q m e none 0 0 [] (w.alloc (.cells #[.int .i64 0, .slice none 0 0] 36))) := Lib.hid ⟨⟨m, h.step BA, fun k hk => hk, rfl⟩, Ef.refl _ _ _, GOwn.nil 32 7 Pt.cl _ _, fun k hk => Nat.lt_of_lt_of_le (h.x_lt hk).2.1 BA.size, Nat.le_trans h.los BA.size, hok⟩
  have HBX := Lib.hid (And.intro r0 (show ¬ m.X q w.heap.size from fun hx => absurd (h.x_lt hx).2.1 (Nat.lt_irrefl _)))
  have HH := Lib.hid (And.intro hok (And.intro True.intro (And.intro hhe (And.intro hll (And.intro hk (And.intro hkl True.intro))))))
  have HLU : Hid (∀ eA : Eng, (∃ x, eA = { e with he := x }) → (eA.upds L).length ≤ 800) := Lib.hid fun eA ⟨x, hx⟩ => by
    rw [hx]
    unfold Eng.upds Eng.goneL
    rw [List.length_append, List.length_map, List.length_map]
    have h1 := List.length_filter_le (fun p => !({ e with he := x } : Eng).hasP p.1 p.2) e.lost
    have h2 := hok.chl
    show _ + e.ch.length ≤ 800
    have h3 : (List.filter (fun p => !({ e with he := x } : Eng).hasP p.1 p.2) ({ e with he := x } : Eng).lost).length ≤ e.lost.length := h1
    omega
  have HLE : Hid ((∀ n, n = (e.heard (fun l => Lk.recv l.c)).length → n ≤ 1000 ∧ n ≤ 100) ∧ ∀ eA : Eng, (∃ x, eA = { e with he := x }) → ∀ n, n = (eA.upds L).length → n ≤ 1000) := Lib.hid ⟨fun n hn => by
    have : (e.heard (fun l => Lk.recv l.c)).length = e.nb.length := List.length_map _
    have := hok.nbl
    omega, fun eA hx n hn => by have := HLU.out eA hx; omega⟩
  clear h hok hhe hll hk hkl hsr hAR BA r0
  go_enter Tryz.func24, Tryz.ntmps24
  by_cases hp : now % 2 = 0
  · have hpi : (((now : Int) % 2) == 0) = true := by simp; omega
    have HP := Lib.hid hp
    clear hp
    have HHE := Lib.hid (hello_ti H1.out (show e.he ≤ 900000 from HH.out.2.2.1))
    obtain ⟨k, hk⟩ : ∃ k, k = e.he := ⟨_, rfl⟩
    rw [← hk] at HHE
    have HK := Lib.hid hk
    clear hk
    go_upto_region 7 with (first
      | (go_at_call 57; (with_reducible refine HHE.out.mono ?_); rintro en w2 ⟨rfl, hT⟩; have HT3 := Lib.hid (hT.step ((Below.refl w2.heap.size w2).alloc (Nat.le_refl _) (.cells #[.int .u8 1, .int .u64 (k : Int), .int .i64 0, .int .u32 0, .int .u8 0, .int .u16 0, .int .u16 0] 32))); have HGS := Lib.hid (row_pt w2 ⟨1, k, 0, 0, 0, 0, 0⟩); clear hT HHE)
      | (at_builtin; obtain ⟨A9, n9, c9, w9, hrun, hT⟩ := HT3.out.app (ys := [⟨1, k, 0, 0, 0, 0, 0⟩]) (m2 := 1) (c2 := 1) rfl HGS.out (fun h => by cases h) (Nat.zero_le _) (Nat.le_add_left 1 999); refine Lib.wpList_append_run _ rfl (.tmp 15) (.tmp 20) 34 34 rfl _ _ rfl rfl _ _ hrun ?_; have HT4 := Lib.hid hT; clear hT hrun HT3)
      | (go_at_call 58; obtain ⟨m9, hE9, -⟩ := HT4.out.ex; (with_reducible refine (heard59_any _ lo q _ m9 hE9 HT4.out.ok (fun l => Lk.recv l.c) says59).mono ?_); rintro en w5 ⟨v5, rfl, hO, hB⟩; have HT5 := Lib.hid (HT4.out.step hB); obtain ⟨A5, c5, n5, hv5, hs5, hn5, ha5⟩ := own_open hO; have HG5 := Lib.hid (And.intro hn5 (And.intro hs5 ha5)); subst hv5; clear hO hB hE9 hs5 hn5 ha5 HT4)
      | (at_builtin; obtain ⟨A9, n9, c9, w9, hrun, hT⟩ := HT5.out.app HG5.out.1 HG5.out.2.1 HG5.out.2.2 (Nat.le_add_left 1 999) (HLE.out.1 _ HG5.out.1).1; refine Lib.wpList_append_run _ rfl (.tmp 22) (.tmp 24) 34 34 rfl _ _ rfl rfl _ _ hrun ?_; have HA := Lib.hid hT; clear hT hrun HT5))
    obtain ⟨eA, heA⟩ : ∃ eA : Eng, eA = { e with he := k + 1 } := ⟨_, rfl⟩
    obtain ⟨lA, hlA⟩ : ∃ lA : List Pt, lA = [] ++ [⟨1, k, 0, 0, 0, 0, 0⟩] ++ ({ e with he := k + 1 } : Eng).heard (fun l => Lk.recv l.c) := ⟨_, rfl⟩
    rw [← hlA, ← heA] at HA
    have HEA : Hid ((∃ x, eA = { e with he := x }) ∧ lA = (if now % 2 = 0 then ⟨1, e.he, 0, 0, 0, 0, 0⟩ :: e.heard (fun l => Lk.recv l.c) else []) ∧ eA.he = (if now % 2 = 0 then e.he + 1 else e.he) ∧ lA.length ≤ 101) := Lib.hid ⟨⟨_, heA⟩, by rw [hlA, if_pos HP.out, HK.out]; rfl, by rw [heA, if_pos HP.out, HK.out], by rw [hlA]; have := (HLE.out.1 _ rfl).2; simp only [List.nil_append, List.length_append, List.length_cons, List.length_nil]; show 0 + 1 + (e.heard (fun l => Lk.recv l.c)).length ≤ 101; omega⟩
    clear heA hlA
    cases hd : e.due with
    | true =>
      have HD : Hid (e.due = true ∨ now % 8 = 0) := Lib.hid (Or.inl hd)
      obtain ⟨mA, hEA, -⟩ := HA.out.ex
      have c11 := hEA.ec.c11
      have hql := hEA.lt
      have hdA : eA.due = e.due := by obtain ⟨x, hx⟩ := HEA.out.1; rw [hx]
      rw [hdA] at c11
      clear hdA
      rw [hd] at c11
      clear hd
      have HUP := Lib.hid (updates_any _ lo q eA mA hEA HA.out.ok (by obtain ⟨x, hx⟩ := HEA.out.1; rw [hx]; exact HH.out.2.2.2.1) AR kr cr L HH.out.2.2.2.2.1 HH.out.2.2.2.2.2.1 (HROW.out _ HA.out.f))
      clear hEA
      go_upto_region 9 with (first
        | (go_at_call 61; (with_reducible refine HUP.out.mono ?_); rintro en wb ⟨vb, rfl, hO, hB⟩; have HTb := Lib.hid (HA.out.step hB); obtain ⟨A6, c6, n6, hv6, hs6, hn6, ha6⟩ := own_open hO; have HG6 := Lib.hid (And.intro hn6 (And.intro hs6 ha6)); subst hv6; clear hO hB hs6 hn6 ha6 HA c11)
        | (at_builtin; obtain ⟨Ac, nc, cc, wc, hrun, hT⟩ := HTb.out.app HG6.out.1 HG6.out.2.1 HG6.out.2.2 (Nat.le_trans HEA.out.2.2.2 (Nat.le_add_left 101 899)) (HLE.out.2 eA HEA.out.1 _ HG6.out.1); refine Lib.wpList_append_run _ rfl (.tmp 36) (.tmp 39) 34 34 rfl _ _ rfl rfl _ _ hrun ?_; have HTc := Lib.hid hT; clear hT hrun HTb))
      obtain ⟨mc, hEc, -⟩ := HTc.out.ex
      have c11 := hEc.ec.c11
      have c12 := hEc.ec.c12
      have f11 := hEc.ec.fz 11
      have f12 := hEc.ec.fz 12
      have hql := hEc.lt
      have HTd := Lib.hid ((HTc.out.cell (e' := { eA with due := false }) 11 (.bool false) (fun m hp => ⟨m, hp.nums rfl, fun k hk => hk, rfl, rfl⟩) (HTc.out.ok.told rfl HTc.out.ok.cts.2.2.2.2 (Or.inl rfl) (Or.inl rfl))).cell (e' := { eA with due := false, lost := [] }) 12 (.slice none 0 0) (fun m hp => ⟨{ m with vl := .slice none 0 0 }, hp.lost' (Fr.of (Below.refl _ _)) (GOwn.nil 30 2 clP _ lo), x_nolost, rfl, rfl⟩) (HTc.out.ok.told rfl HTc.out.ok.cts.2.2.2.2 (Or.inr rfl) (Or.inl rfl)))
      clear hEc HTc
      go_upto_region 10 with (fail)
      clear c11 c12 f11 f12 hql
      generalize World.setCell _ _ _ = wd at *
      have HEB : Hid (({ eA with due := false, lost := [] } : Eng) = { e with he := eA.he, due := false, lost := if e.due = true ∨ now % 8 = 0 then [] else e.lost } ∧ lA ++ eA.upds L = (if now % 2 = 0 then ⟨1, e.he, 0, 0, 0, 0, 0⟩ :: e.heard (fun l => Lk.recv l.c) else []) ++ (if e.due = true ∨ now % 8 = 0 then e.upds L else []) ∧ (lA ++ eA.upds L).length ≤ 1000) := Lib.hid (by
        have hl := HLE.out.2 eA HEA.out.1 _ rfl
        obtain ⟨x, hx⟩ := HEA.out.1
        refine ⟨by rw [if_pos HD.out, hx], by rw [if_pos HD.out, HEA.out.2.1, hx]; rfl, ?_⟩
        rw [List.length_append]
        have := HEA.out.2.2.2
        have h3 := HLU.out eA HEA.out.1
        omega)
      go_upto_region 11 with (first
        | (go_at_call 62; (with_reducible refine (take_ti HTd.out).mono ?_); rintro en we ⟨A7, n7, c7, rfl, hn7, hs7, ha7, hT⟩; have HTe := Lib.hid hT; have HG7 := Lib.hid (And.intro hn7 (And.intro hs7 ha7)); clear hT hn7 hs7 ha7)
        | (at_builtin; obtain ⟨Af, nf, cf, wf, hrun, hT⟩ := HTe.out.app HG7.out.1 HG7.out.2.1 HG7.out.2.2 HEB.out.2.2 (Nat.le_trans (Nat.le_of_eq HG7.out.1) (Nat.le_trans HTd.out.ok.rql (Nat.le_add_left 16 984))); refine Lib.wpList_append_run _ rfl (.tmp 49) (.tmp 53) 34 34 rfl _ _ rfl rfl _ _ hrun ?_; have HTf := Lib.hid hT; clear hT hrun HTe))
      have hrq : ({ eA with due := false, lost := [] } : Eng).rq = e.rq := by rw [HEB.out.1]
      rw [hrq, HEB.out.2.1] at HTf
      have HFE : Hid (({ ({ eA with due := false, lost := [] } : Eng) with rq := [] } : Eng) = e.tellE now) := Lib.hid (by rw [HEB.out.1, HEA.out.2.2.1]; rfl)
      rw [HFE.out] at HTf
      have HPL : Hid ((if now % 2 = 0 then ⟨1, e.he, 0, 0, 0, 0, 0⟩ :: e.heard (fun l => Lk.recv l.c) else []) ++ (if e.due = true ∨ now % 8 = 0 then e.upds L else []) ++ e.rq = e.tellP now L) := Lib.hid rfl
      rw [HPL.out] at HTf
      obtain ⟨Ag, cg, hvg, -⟩ := HTf.out.own.form (fun _ => rfl)
      injection hvg with hvg1 hvg2 hvg3
      have HNF := Lib.hid hvg2
      have HBXR := Lib.hid (HTf.out.f.cells _ _ _ _ HBX.out.1 (by decide) HBX.out.2)
      obtain ⟨y0, y1, yf⟩ := row2 HBXR.out
      have hyl := (Array.getElem?_eq_some_iff.1 HBXR.out).1
      obtain ⟨mf, hEf, -⟩ := HTf.out.ex
      have c0 := hEf.ec.c0
      have hid9 : (e.tellE now).id = e.id := rfl
      rw [hid9] at c0
      have hqf := hEf.lt
      clear hrq hvg1 hvg2 hvg3 hEf
      by_cases hl0 : e.tellP now L = []
      · have hn0 : nf = 0 := by rw [HNF.out, hl0]; rfl
        subst hn0
        have HTL := Lib.hid (tell_last HTf.out HBX.out.2 HBX.out.1 (.int .i64 0) (.slice none 0 0))
        have HL0 := Lib.hid hl0
        clear hl0
        go_wp2
        exact bodyPost_ret (Src.results_ct rfl _ _ w.heap.size 36 _ (0, 0) _ (.bool false) rfl rfl (Src.Tab_set2 HBXR.out _ _) Tryz.underlying36 rfl (by kernel_rfl)) rfl ⟨none, 0, 0, by first | rfl | (rw [HL0.out]; rfl), by first | rfl | (rw [HL0.out]; rfl), by first | exact GOwn.nil 32 7 Pt.cl _ _ | (rw [HL0.out]; exact GOwn.nil 32 7 Pt.cl _ _), HTL.out.1, HTL.out.2⟩
      · have hnp : (((nf : Nat) : Int) == 0) = false := by
          have h9 : (e.tellP now L).length ≠ 0 := fun h9 => hl0 (List.eq_nil_of_length_eq_zero h9)
          have := HNF.out
          simp; omega
        have HTL := Lib.hid (tell_last HTf.out HBX.out.2 HBX.out.1 (.int .i64 (e.id : Int)) (.slice Af nf cf))
        have HTO := Lib.hid (tell_own HTf.out HBX.out.1 HBX.out.2 (.int .i64 (e.id : Int)) (.slice Af nf cf))
        have HL0 := Lib.hid hl0
        clear hl0
        go_wp2
        exact bodyPost_ret (Src.results_ct rfl _ _ w.heap.size 36 _ (0, 0) _ (.bool true) rfl rfl (Src.Tab_set2 HBXR.out _ _) Tryz.underlying36 rfl (by kernel_rfl)) rfl ⟨Af, nf, cf, by first | rfl | rw [if_neg HL0.out, show decide (e.tellP now L ≠ []) = true from decide_eq_true HL0.out], HNF.out, HTO.out, HTL.out.1, HTL.out.2⟩
    | false =>
      have HDF := Lib.hid hd
      by_cases h8 : now % 8 = 0
      · have HD : Hid (e.due = true ∨ now % 8 = 0) := Lib.hid (Or.inr h8)
        have h8i : (((now : Int) % 8) == 0) = true := by simp; omega
        clear h8
        obtain ⟨mA, hEA, -⟩ := HA.out.ex
        have c11 := hEA.ec.c11
        have hql := hEA.lt
        have hdA : eA.due = e.due := by obtain ⟨x, hx⟩ := HEA.out.1; rw [hx]
        rw [hdA] at c11
        clear hdA
        rw [hd] at c11
        clear hd
        have HUP := Lib.hid (updates_any _ lo q eA mA hEA HA.out.ok (by obtain ⟨x, hx⟩ := HEA.out.1; rw [hx]; exact HH.out.2.2.2.1) AR kr cr L HH.out.2.2.2.2.1 HH.out.2.2.2.2.2.1 (HROW.out _ HA.out.f))
        clear hEA
        go_upto_region 9 with (first
          | (go_at_call 61; (with_reducible refine HUP.out.mono ?_); rintro en wb ⟨vb, rfl, hO, hB⟩; have HTb := Lib.hid (HA.out.step hB); obtain ⟨A6, c6, n6, hv6, hs6, hn6, ha6⟩ := own_open hO; have HG6 := Lib.hid (And.intro hn6 (And.intro hs6 ha6)); subst hv6; clear hO hB hs6 hn6 ha6 HA c11)
          | (at_builtin; obtain ⟨Ac, nc, cc, wc, hrun, hT⟩ := HTb.out.app HG6.out.1 HG6.out.2.1 HG6.out.2.2 (Nat.le_trans HEA.out.2.2.2 (Nat.le_add_left 101 899)) (HLE.out.2 eA HEA.out.1 _ HG6.out.1); refine Lib.wpList_append_run _ rfl (.tmp 36) (.tmp 39) 34 34 rfl _ _ rfl rfl _ _ hrun ?_; have HTc := Lib.hid hT; clear hT hrun HTb))
        obtain ⟨mc, hEc, -⟩ := HTc.out.ex
        have c11 := hEc.ec.c11
        have c12 := hEc.ec.c12
        have f11 := hEc.ec.fz 11
        have f12 := hEc.ec.fz 12
        have hql := hEc.lt
        have HTd := Lib.hid ((HTc.out.cell (e' := { eA with due := false }) 11 (.bool false) (fun m hp => ⟨m, hp.nums rfl, fun k hk => hk, rfl, rfl⟩) (HTc.out.ok.told rfl HTc.out.ok.cts.2.2.2.2 (Or.inl rfl) (Or.inl rfl))).cell (e' := { eA with due := false, lost := [] }) 12 (.slice none 0 0) (fun m hp => ⟨{ m with vl := .slice none 0 0 }, hp.lost' (Fr.of (Below.refl _ _)) (GOwn.nil 30 2 clP _ lo), x_nolost, rfl, rfl⟩) (HTc.out.ok.told rfl HTc.out.ok.cts.2.2.2.2 (Or.inr rfl) (Or.inl rfl)))
        clear hEc HTc
        go_upto_region 10 with (fail)
        clear c11 c12 f11 f12 hql
        generalize World.setCell _ _ _ = wd at *
        have HEB : Hid (({ eA with due := false, lost := [] } : Eng) = { e with he := eA.he, due := false, lost := if e.due = true ∨ now % 8 = 0 then [] else e.lost } ∧ lA ++ eA.upds L = (if now % 2 = 0 then ⟨1, e.he, 0, 0, 0, 0, 0⟩ :: e.heard (fun l => Lk.recv l.c) else []) ++ (if e.due = true ∨ now % 8 = 0 then e.upds L else []) ∧ (lA ++ eA.upds L).length ≤ 1000) := Lib.hid (by
          have hl := HLE.out.2 eA HEA.out.1 _ rfl
          obtain ⟨x, hx⟩ := HEA.out.1
          refine ⟨by rw [if_pos HD.out, hx], by rw [if_pos HD.out, HEA.out.2.1, hx]; rfl, ?_⟩
          rw [List.length_append]
          have := HEA.out.2.2.2
          have h3 := HLU.out eA HEA.out.1
          omega)
        go_upto_region 11 with (first
          | (go_at_call 62; (with_reducible refine (take_ti HTd.out).mono ?_); rintro en we ⟨A7, n7, c7, rfl, hn7, hs7, ha7, hT⟩; have HTe := Lib.hid hT; have HG7 := Lib.hid (And.intro hn7 (And.intro hs7 ha7)); clear hT hn7 hs7 ha7)
          | (at_builtin; obtain ⟨Af, nf, cf, wf, hrun, hT⟩ := HTe.out.app HG7.out.1 HG7.out.2.1 HG7.out.2.2 HEB.out.2.2 (Nat.le_trans (Nat.le_of_eq HG7.out.1) (Nat.le_trans HTd.out.ok.rql (Nat.le_add_left 16 984))); refine Lib.wpList_append_run _ rfl (.tmp 49) (.tmp 53) 34 34 rfl _ _ rfl rfl _ _ hrun ?_; have HTf := Lib.hid hT; clear hT hrun HTe))
        have hrq : ({ eA with due := false, lost := [] } : Eng).rq = e.rq := by rw [HEB.out.1]
        rw [hrq, HEB.out.2.1] at HTf
        have HFE : Hid (({ ({ eA with due := false, lost := [] } : Eng) with rq := [] } : Eng) = e.tellE now) := Lib.hid (by rw [HEB.out.1, HEA.out.2.2.1]; rfl)
        rw [HFE.out] at HTf
        have HPL : Hid ((if now % 2 = 0 then ⟨1, e.he, 0, 0, 0, 0, 0⟩ :: e.heard (fun l => Lk.recv l.c) else []) ++ (if e.due = true ∨ now % 8 = 0 then e.upds L else []) ++ e.rq = e.tellP now L) := Lib.hid rfl
        rw [HPL.out] at HTf
        obtain ⟨Ag, cg, hvg, -⟩ := HTf.out.own.form (fun _ => rfl)
        injection hvg with hvg1 hvg2 hvg3
        have HNF := Lib.hid hvg2
        have HBXR := Lib.hid (HTf.out.f.cells _ _ _ _ HBX.out.1 (by decide) HBX.out.2)
        obtain ⟨y0, y1, yf⟩ := row2 HBXR.out
        have hyl := (Array.getElem?_eq_some_iff.1 HBXR.out).1
        obtain ⟨mf, hEf, -⟩ := HTf.out.ex
        have c0 := hEf.ec.c0
        have hid9 : (e.tellE now).id = e.id := rfl
        rw [hid9] at c0
        have hqf := hEf.lt
        clear hrq hvg1 hvg2 hvg3 hEf
        by_cases hl0 : e.tellP now L = []
        · have hn0 : nf = 0 := by rw [HNF.out, hl0]; rfl
          subst hn0
          have HTL := Lib.hid (tell_last HTf.out HBX.out.2 HBX.out.1 (.int .i64 0) (.slice none 0 0))
          have HL0 := Lib.hid hl0
          clear hl0
          go_wp2
          exact bodyPost_ret (Src.results_ct rfl _ _ w.heap.size 36 _ (0, 0) _ (.bool false) rfl rfl (Src.Tab_set2 HBXR.out _ _) Tryz.underlying36 rfl (by kernel_rfl)) rfl ⟨none, 0, 0, by first | rfl | (rw [HL0.out]; rfl), by first | rfl | (rw [HL0.out]; rfl), by first | exact GOwn.nil 32 7 Pt.cl _ _ | (rw [HL0.out]; exact GOwn.nil 32 7 Pt.cl _ _), HTL.out.1, HTL.out.2⟩
        · have hnp : (((nf : Nat) : Int) == 0) = false := by
            have h9 : (e.tellP now L).length ≠ 0 := fun h9 => hl0 (List.eq_nil_of_length_eq_zero h9)
            have := HNF.out
            simp; omega
          have HTL := Lib.hid (tell_last HTf.out HBX.out.2 HBX.out.1 (.int .i64 (e.id : Int)) (.slice Af nf cf))
          have HTO := Lib.hid (tell_own HTf.out HBX.out.1 HBX.out.2 (.int .i64 (e.id : Int)) (.slice Af nf cf))
          have HL0 := Lib.hid hl0
          clear hl0
          go_wp2
          exact bodyPost_ret (Src.results_ct rfl _ _ w.heap.size 36 _ (0, 0) _ (.bool true) rfl rfl (Src.Tab_set2 HBXR.out _ _) Tryz.underlying36 rfl (by kernel_rfl)) rfl ⟨Af, nf, cf, by first | rfl | rw [if_neg HL0.out, show decide (e.tellP now L ≠ []) = true from decide_eq_true HL0.out], HNF.out, HTO.out, HTL.out.1, HTL.out.2⟩
      · have HD : Hid (¬ (e.due = true ∨ now % 8 = 0)) := Lib.hid (fun h9 => by rcases h9 with h9 | h9 <;> simp_all)
        have h8i : (((now : Int) % 8) == 0) = false := by simp; omega
        clear h8
        obtain ⟨mA, hEA, -⟩ := HA.out.ex
        have c11 := hEA.ec.c11
        have hql := hEA.lt
        have hdA : eA.due = e.due := by obtain ⟨x, hx⟩ := HEA.out.1; rw [hx]
        rw [hdA] at c11
        clear hdA
        rw [hd] at c11
        clear hd
        clear hEA
        go_upto_region 10 with (fail)
        clear c11 hql
        have HTd := HA
        have HEB : Hid (eA = { e with he := eA.he, due := false, lost := if e.due = true ∨ now % 8 = 0 then [] else e.lost } ∧ lA = (if now % 2 = 0 then ⟨1, e.he, 0, 0, 0, 0, 0⟩ :: e.heard (fun l => Lk.recv l.c) else []) ++ (if e.due = true ∨ now % 8 = 0 then e.upds L else []) ∧ lA.length ≤ 1000) := Lib.hid (by
          obtain ⟨x, hx⟩ := HEA.out.1
          refine ⟨by rw [if_neg HD.out, hx, ← HDF.out], by rw [if_neg HD.out, HEA.out.2.1, List.append_nil], Nat.le_trans HEA.out.2.2.2 (Nat.le_add_left 101 899)⟩)
        go_upto_region 11 with (first
          | (go_at_call 62; (with_reducible refine (take_ti HTd.out).mono ?_); rintro en we ⟨A7, n7, c7, rfl, hn7, hs7, ha7, hT⟩; have HTe := Lib.hid hT; have HG7 := Lib.hid (And.intro hn7 (And.intro hs7 ha7)); clear hT hn7 hs7 ha7)
          | (at_builtin; obtain ⟨Af, nf, cf, wf, hrun, hT⟩ := HTe.out.app HG7.out.1 HG7.out.2.1 HG7.out.2.2 HEB.out.2.2 (Nat.le_trans (Nat.le_of_eq HG7.out.1) (Nat.le_trans HTd.out.ok.rql (Nat.le_add_left 16 984))); refine Lib.wpList_append_run _ rfl (.tmp 49) (.tmp 53) 34 34 rfl _ _ rfl rfl _ _ hrun ?_; have HTf := Lib.hid hT; clear hT hrun HTe))
        have hrq : (eA : Eng).rq = e.rq := by rw [HEB.out.1]
        rw [hrq, HEB.out.2.1] at HTf
        have HFE : Hid (({ (eA : Eng) with rq := [] } : Eng) = e.tellE now) := Lib.hid (by rw [HEB.out.1, HEA.out.2.2.1]; rfl)
        rw [HFE.out] at HTf
        have HPL : Hid ((if now % 2 = 0 then ⟨1, e.he, 0, 0, 0, 0, 0⟩ :: e.heard (fun l => Lk.recv l.c) else []) ++ (if e.due = true ∨ now % 8 = 0 then e.upds L else []) ++ e.rq = e.tellP now L) := Lib.hid rfl
        rw [HPL.out] at HTf
        obtain ⟨Ag, cg, hvg, -⟩ := HTf.out.own.form (fun _ => rfl)
        injection hvg with hvg1 hvg2 hvg3
        have HNF := Lib.hid hvg2
        have HBXR := Lib.hid (HTf.out.f.cells _ _ _ _ HBX.out.1 (by decide) HBX.out.2)
        obtain ⟨y0, y1, yf⟩ := row2 HBXR.out
        have hyl := (Array.getElem?_eq_some_iff.1 HBXR.out).1
        obtain ⟨mf, hEf, -⟩ := HTf.out.ex
        have c0 := hEf.ec.c0
        have hid9 : (e.tellE now).id = e.id := rfl
        rw [hid9] at c0
        have hqf := hEf.lt
        clear hrq hvg1 hvg2 hvg3 hEf
        by_cases hl0 : e.tellP now L = []
        · have hn0 : nf = 0 := by rw [HNF.out, hl0]; rfl
          subst hn0
          have HTL := Lib.hid (tell_last HTf.out HBX.out.2 HBX.out.1 (.int .i64 0) (.slice none 0 0))
          have HL0 := Lib.hid hl0
          clear hl0
          go_wp2
          exact bodyPost_ret (Src.results_ct rfl _ _ w.heap.size 36 _ (0, 0) _ (.bool false) rfl rfl (Src.Tab_set2 HBXR.out _ _) Tryz.underlying36 rfl (by kernel_rfl)) rfl ⟨none, 0, 0, by first | rfl | (rw [HL0.out]; rfl), by first | rfl | (rw [HL0.out]; rfl), by first | exact GOwn.nil 32 7 Pt.cl _ _ | (rw [HL0.out]; exact GOwn.nil 32 7 Pt.cl _ _), HTL.out.1, HTL.out.2⟩
        · have hnp : (((nf : Nat) : Int) == 0) = false := by
            have h9 : (e.tellP now L).length ≠ 0 := fun h9 => hl0 (List.eq_nil_of_length_eq_zero h9)
            have := HNF.out
            simp; omega
          have HTL := Lib.hid (tell_last HTf.out HBX.out.2 HBX.out.1 (.int .i64 (e.id : Int)) (.slice Af nf cf))
          have HTO := Lib.hid (tell_own HTf.out HBX.out.1 HBX.out.2 (.int .i64 (e.id : Int)) (.slice Af nf cf))
          have HL0 := Lib.hid hl0
          clear hl0
          go_wp2
          exact bodyPost_ret (Src.results_ct rfl _ _ w.heap.size 36 _ (0, 0) _ (.bool true) rfl rfl (Src.Tab_set2 HBXR.out _ _) Tryz.underlying36 rfl (by kernel_rfl)) rfl ⟨Af, nf, cf, by first | rfl | rw [if_neg HL0.out, show decide (e.tellP now L ≠ []) = true from decide_eq_true HL0.out], HNF.out, HTO.out, HTL.out.1, HTL.out.2⟩
  · have hpi : (((now : Int) % 2) == 0) = false := by simp; omega
    have HP := Lib.hid hp
    clear hp
    go_upto_region 7 with (fail)
    obtain ⟨eA, heA⟩ : ∃ eA : Eng, eA = e := ⟨_, rfl⟩
    obtain ⟨lA, hlA⟩ : ∃ lA : List Pt, lA = [] := ⟨_, rfl⟩
    have HA := H1
    rw [← hlA, ← heA] at HA
    have HEA : Hid ((∃ x, eA = { e with he := x }) ∧ lA = (if now % 2 = 0 then ⟨1, e.he, 0, 0, 0, 0, 0⟩ :: e.heard (fun l => Lk.recv l.c) else []) ∧ eA.he = (if now % 2 = 0 then e.he + 1 else e.he) ∧ lA.length ≤ 101) := Lib.hid ⟨⟨_, heA⟩, by rw [hlA, if_neg HP.out], by rw [heA, if_neg HP.out], by rw [hlA]; exact Nat.zero_le _⟩
    clear heA hlA
    cases hd : e.due with
    | true =>
      have HD : Hid (e.due = true ∨ now % 8 = 0) := Lib.hid (Or.inl hd)
      obtain ⟨mA, hEA, -⟩ := HA.out.ex
      have c11 := hEA.ec.c11
      have hql := hEA.lt
      have hdA : eA.due = e.due := by obtain ⟨x, hx⟩ := HEA.out.1; rw [hx]
      rw [hdA] at c11
      clear hdA
      rw [hd] at c11
      clear hd
      have HUP := Lib.hid (updates_any _ lo q eA mA hEA HA.out.ok (by obtain ⟨x, hx⟩ := HEA.out.1; rw [hx]; exact HH.out.2.2.2.1) AR kr cr L HH.out.2.2.2.2.1 HH.out.2.2.2.2.2.1 (HROW.out _ HA.out.f))
      clear hEA
      go_upto_region 9 with (first
        | (go_at_call 61; (with_reducible refine HUP.out.mono ?_); rintro en wb ⟨vb, rfl, hO, hB⟩; have HTb := Lib.hid (HA.out.step hB); obtain ⟨A6, c6, n6, hv6, hs6, hn6, ha6⟩ := own_open hO; have HG6 := Lib.hid (And.intro hn6 (And.intro hs6 ha6)); subst hv6; clear hO hB hs6 hn6 ha6 HA c11)
        | (at_builtin; obtain ⟨Ac, nc, cc, wc, hrun, hT⟩ := HTb.out.app HG6.out.1 HG6.out.2.1 HG6.out.2.2 (Nat.le_trans HEA.out.2.2.2 (Nat.le_add_left 101 899)) (HLE.out.2 eA HEA.out.1 _ HG6.out.1); refine Lib.wpList_append_run _ rfl (.tmp 36) (.tmp 39) 34 34 rfl _ _ rfl rfl _ _ hrun ?_; have HTc := Lib.hid hT; clear hT hrun HTb))
      obtain ⟨mc, hEc, -⟩ := HTc.out.ex
      have c11 := hEc.ec.c11
      have c12 := hEc.ec.c12
      have f11 := hEc.ec.fz 11
      have f12 := hEc.ec.fz 12
      have hql := hEc.lt
      have HTd := Lib.hid ((HTc.out.cell (e' := { eA with due := false }) 11 (.bool false) (fun m hp => ⟨m, hp.nums rfl, fun k hk => hk, rfl, rfl⟩) (HTc.out.ok.told rfl HTc.out.ok.cts.2.2.2.2 (Or.inl rfl) (Or.inl rfl))).cell (e' := { eA with due := false, lost := [] }) 12 (.slice none 0 0) (fun m hp => ⟨{ m with vl := .slice none 0 0 }, hp.lost' (Fr.of (Below.refl _ _)) (GOwn.nil 30 2 clP _ lo), x_nolost, rfl, rfl⟩) (HTc.out.ok.told rfl HTc.out.ok.cts.2.2.2.2 (Or.inr rfl) (Or.inl rfl)))
      clear hEc HTc
      go_upto_region 10 with (fail)
      clear c11 c12 f11 f12 hql
      generalize World.setCell _ _ _ = wd at *
      have HEB : Hid (({ eA with due := false, lost := [] } : Eng) = { e with he := eA.he, due := false, lost := if e.due = true ∨ now % 8 = 0 then [] else e.lost } ∧ lA ++ eA.upds L = (if now % 2 = 0 then ⟨1, e.he, 0, 0, 0, 0, 0⟩ :: e.heard (fun l => Lk.recv l.c) else []) ++ (if e.due = true ∨ now % 8 = 0 then e.upds L else []) ∧ (lA ++ eA.upds L).length ≤ 1000) := Lib.hid (by
        have hl := HLE.out.2 eA HEA.out.1 _ rfl
        obtain ⟨x, hx⟩ := HEA.out.1
        refine ⟨by rw [if_pos HD.out, hx], by rw [if_pos HD.out, HEA.out.2.1, hx]; rfl, ?_⟩
        rw [List.length_append]
        have := HEA.out.2.2.2
        have h3 := HLU.out eA HEA.out.1
        omega)
      go_upto_region 11 with (first
        | (go_at_call 62; (with_reducible refine (take_ti HTd.out).mono ?_); rintro en we ⟨A7, n7, c7, rfl, hn7, hs7, ha7, hT⟩; have HTe := Lib.hid hT; have HG7 := Lib.hid (And.intro hn7 (And.intro hs7 ha7)); clear hT hn7 hs7 ha7)
        | (at_builtin; obtain ⟨Af, nf, cf, wf, hrun, hT⟩ := HTe.out.app HG7.out.1 HG7.out.2.1 HG7.out.2.2 HEB.out.2.2 (Nat.le_trans (Nat.le_of_eq HG7.out.1) (Nat.le_trans HTd.out.ok.rql (Nat.le_add_left 16 984))); refine Lib.wpList_append_run _ rfl (.tmp 49) (.tmp 53) 34 34 rfl _ _ rfl rfl _ _ hrun ?_; have HTf := Lib.hid hT; clear hT hrun HTe))
      have hrq : ({ eA with due := false, lost := [] } : Eng).rq = e.rq := by rw [HEB.out.1]
      rw [hrq, HEB.out.2.1] at HTf
      have HFE : Hid (({ ({ eA with due := false, lost := [] } : Eng) with rq := [] } : Eng) = e.tellE now) := Lib.hid (by rw [HEB.out.1, HEA.out.2.2.1]; rfl)
      rw [HFE.out] at HTf
      have HPL : Hid ((if now % 2 = 0 then ⟨1, e.he, 0, 0, 0, 0, 0⟩ :: e.heard (fun l => Lk.recv l.c) else []) ++ (if e.due = true ∨ now % 8 = 0 then e.upds L else []) ++ e.rq = e.tellP now L) := Lib.hid rfl
      rw [HPL.out] at HTf
      obtain ⟨Ag, cg, hvg, -⟩ := HTf.out.own.form (fun _ => rfl)
      injection hvg with hvg1 hvg2 hvg3
      have HNF := Lib.hid hvg2
      have HBXR := Lib.hid (HTf.out.f.cells _ _ _ _ HBX.out.1 (by decide) HBX.out.2)
      obtain ⟨y0, y1, yf⟩ := row2 HBXR.out
      have hyl := (Array.getElem?_eq_some_iff.1 HBXR.out).1
      obtain ⟨mf, hEf, -⟩ := HTf.out.ex
      have c0 := hEf.ec.c0
      have hid9 : (e.tellE now).id = e.id := rfl
      rw [hid9] at c0
      have hqf := hEf.lt
      clear hrq hvg1 hvg2 hvg3 hEf
      by_cases hl0 : e.tellP now L = []
      · have hn0 : nf = 0 := by rw [HNF.out, hl0]; rfl
        subst hn0
        have HTL := Lib.hid (tell_last HTf.out HBX.out.2 HBX.out.1 (.int .i64 0) (.slice none 0 0))
        have HL0 := Lib.hid hl0
        clear hl0
        go_wp2
        exact bodyPost_ret (Src.results_ct rfl _ _ w.heap.size 36 _ (0, 0) _ (.bool false) rfl rfl (Src.Tab_set2 HBXR.out _ _) Tryz.underlying36 rfl (by kernel_rfl)) rfl ⟨none, 0, 0, by first | rfl | (rw [HL0.out]; rfl), by first | rfl | (rw [HL0.out]; rfl), by first | exact GOwn.nil 32 7 Pt.cl _ _ | (rw [HL0.out]; exact GOwn.nil 32 7 Pt.cl _ _), HTL.out.1, HTL.out.2⟩
      · have hnp : (((nf : Nat) : Int) == 0) = false := by
          have h9 : (e.tellP now L).length ≠ 0 := fun h9 => hl0 (List.eq_nil_of_length_eq_zero h9)
          have := HNF.out
          simp; omega
        have HTL := Lib.hid (tell_last HTf.out HBX.out.2 HBX.out.1 (.int .i64 (e.id : Int)) (.slice Af nf cf))
        have HTO := Lib.hid (tell_own HTf.out HBX.out.1 HBX.out.2 (.int .i64 (e.id : Int)) (.slice Af nf cf))
        have HL0 := Lib.hid hl0
        clear hl0
        go_wp2
        exact bodyPost_ret (Src.results_ct rfl _ _ w.heap.size 36 _ (0, 0) _ (.bool true) rfl rfl (Src.Tab_set2 HBXR.out _ _) Tryz.underlying36 rfl (by kernel_rfl)) rfl ⟨Af, nf, cf, by first | rfl | rw [if_neg HL0.out, show decide (e.tellP now L ≠ []) = true from decide_eq_true HL0.out], HNF.out, HTO.out, HTL.out.1, HTL.out.2⟩
    | false =>
      have HDF := Lib.hid hd
      have h8 : ¬ now % 8 = 0 := by have := HP.out; omega
      have HD : Hid (¬ (e.due = true ∨ now % 8 = 0)) := Lib.hid (fun h9 => by rcases h9 with h9 | h9 <;> simp_all)
      have h8i : (((now : Int) % 8) == 0) = false := by simp; omega
      clear h8
      obtain ⟨mA, hEA, -⟩ := HA.out.ex
      have c11 := hEA.ec.c11
      have hql := hEA.lt
      have hdA : eA.due = e.due := by obtain ⟨x, hx⟩ := HEA.out.1; rw [hx]
      rw [hdA] at c11
      clear hdA
      rw [hd] at c11
      clear hd
      clear hEA
      go_upto_region 10 with (fail)
      clear c11 hql
      have HTd := HA
      have HEB : Hid (eA = { e with he := eA.he, due := false, lost := if e.due = true ∨ now % 8 = 0 then [] else e.lost } ∧ lA = (if now % 2 = 0 then ⟨1, e.he, 0, 0, 0, 0, 0⟩ :: e.heard (fun l => Lk.recv l.c) else []) ++ (if e.due = true ∨ now % 8 = 0 then e.upds L else []) ∧ lA.length ≤ 1000) := Lib.hid (by
        obtain ⟨x, hx⟩ := HEA.out.1
        refine ⟨by rw [if_neg HD.out, hx, ← HDF.out], by rw [if_neg HD.out, HEA.out.2.1, List.append_nil], Nat.le_trans HEA.out.2.2.2 (Nat.le_add_left 101 899)⟩)
      go_upto_region 11 with (first
        | (go_at_call 62; (with_reducible refine (take_ti HTd.out).mono ?_); rintro en we ⟨A7, n7, c7, rfl, hn7, hs7, ha7, hT⟩; have HTe := Lib.hid hT; have HG7 := Lib.hid (And.intro hn7 (And.intro hs7 ha7)); clear hT hn7 hs7 ha7)
        | (at_builtin; obtain ⟨Af, nf, cf, wf, hrun, hT⟩ := HTe.out.app HG7.out.1 HG7.out.2.1 HG7.out.2.2 HEB.out.2.2 (Nat.le_trans (Nat.le_of_eq HG7.out.1) (Nat.le_trans HTd.out.ok.rql (Nat.le_add_left 16 984))); refine Lib.wpList_append_run _ rfl (.tmp 49) (.tmp 53) 34 34 rfl _ _ rfl rfl _ _ hrun ?_; have HTf := Lib.hid hT; clear hT hrun HTe))
      have hrq : (eA : Eng).rq = e.rq := by rw [HEB.out.1]
      rw [hrq, HEB.out.2.1] at HTf
      have HFE : Hid (({ (eA : Eng) with rq := [] } : Eng) = e.tellE now) := Lib.hid (by rw [HEB.out.1, HEA.out.2.2.1]; rfl)
      rw [HFE.out] at HTf
      have HPL : Hid ((if now % 2 = 0 then ⟨1, e.he, 0, 0, 0, 0, 0⟩ :: e.heard (fun l => Lk.recv l.c) else []) ++ (if e.due = true ∨ now % 8 = 0 then e.upds L else []) ++ e.rq = e.tellP now L) := Lib.hid rfl
      rw [HPL.out] at HTf
      obtain ⟨Ag, cg, hvg, -⟩ := HTf.out.own.form (fun _ => rfl)
      injection hvg with hvg1 hvg2 hvg3
      have HNF := Lib.hid hvg2
      have HBXR := Lib.hid (HTf.out.f.cells _ _ _ _ HBX.out.1 (by decide) HBX.out.2)
      obtain ⟨y0, y1, yf⟩ := row2 HBXR.out
      have hyl := (Array.getElem?_eq_some_iff.1 HBXR.out).1
      obtain ⟨mf, hEf, -⟩ := HTf.out.ex
      have c0 := hEf.ec.c0
      have hid9 : (e.tellE now).id = e.id := rfl
      rw [hid9] at c0
      have hqf := hEf.lt
      clear hrq hvg1 hvg2 hvg3 hEf
      by_cases hl0 : e.tellP now L = []
      · have hn0 : nf = 0 := by rw [HNF.out, hl0]; rfl
        subst hn0
        have HTL := Lib.hid (tell_last HTf.out HBX.out.2 HBX.out.1 (.int .i64 0) (.slice none 0 0))
        have HL0 := Lib.hid hl0
        clear hl0
        go_wp2
        exact bodyPost_ret (Src.results_ct rfl _ _ w.heap.size 36 _ (0, 0) _ (.bool false) rfl rfl (Src.Tab_set2 HBXR.out _ _) Tryz.underlying36 rfl (by kernel_rfl)) rfl ⟨none, 0, 0, by first | rfl | (rw [HL0.out]; rfl), by first | rfl | (rw [HL0.out]; rfl), by first | exact GOwn.nil 32 7 Pt.cl _ _ | (rw [HL0.out]; exact GOwn.nil 32 7 Pt.cl _ _), HTL.out.1, HTL.out.2⟩
      · have hnp : (((nf : Nat) : Int) == 0) = false := by
          have h9 : (e.tellP now L).length ≠ 0 := fun h9 => hl0 (List.eq_nil_of_length_eq_zero h9)
          have := HNF.out
          simp; omega
        have HTL := Lib.hid (tell_last HTf.out HBX.out.2 HBX.out.1 (.int .i64 (e.id : Int)) (.slice Af nf cf))
        have HTO := Lib.hid (tell_own HTf.out HBX.out.1 HBX.out.2 (.int .i64 (e.id : Int)) (.slice Af nf cf))
        have HL0 := Lib.hid hl0
        clear hl0
        go_wp2
        exact bodyPost_ret (Src.results_ct rfl _ _ w.heap.size 36 _ (0, 0) _ (.bool true) rfl rfl (Src.Tab_set2 HBXR.out _ _) Tryz.underlying36 rfl (by kernel_rfl)) rfl ⟨Af, nf, cf, by first | rfl | rw [if_neg HL0.out, show decide (e.tellP now L ≠ []) = true from decide_eq_true HL0.out], HNF.out, HTO.out, HTL.out.1, HTL.out.2⟩
end Go.Proofs.YtjbogjbopgcbhaaGreatDoor.Eg
