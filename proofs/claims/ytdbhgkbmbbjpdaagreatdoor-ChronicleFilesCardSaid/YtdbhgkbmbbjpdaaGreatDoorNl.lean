/- The chronicle's own files: a set of names. What isn't the chronicle's goes away. -/
import Derived.Test.YtdbhgkbmbbjpdaaGreatDoorNj
import Derived.Test.YtdbhgkbmbbjpdaaGreatDoorShz
import Derived.Maps.OwnSet
import Derived.Deep.DeepCutAuto
namespace Go.Proofs.YtdbhgkbmbbjpdaaGreatDoor.Chr
variable {lo : Nat}
open Go.ChangeShapes Go.WideShapes Go.ChangeAt Go.RowKit
open Shf (S str)
open Coin (Rd Row Own sz coin got Pur takeV endV CoinSaid)
open Frm (pack err size kind cnt body noItem itemV OneSaid)
set_option maxRecDepth 8000
open Shf (Tag Ext Rep M)
def NS (w : World) (b n : Nat) (l : List S) : Prop := ∃ D : DataW Unit, w.ownsMap Tryz.prog 9 unitElem b n D ∧ ∀ s : S, Maps.has D (.string s) = decide (s ∈ l)
theorem NS.kept {w w' : World} {b n : Nat} {l : List S} {row : Option Nat} (h : NS w b n l) (hg : w.grownBy w' row) (hne : some b ≠ row) : NS w' b n l := by
  obtain ⟨D, h1, h2⟩ := h; exact ⟨D, h1.kept hg hne, h2⟩
theorem NS.lt {w : World} {b n : Nat} {l : List S} (h : NS w b n l) : b < w.heap.size := by obtain ⟨D, h1, _⟩ := h; exact h1.lt
theorem NS.made (w : World) : NS (w.alloc (.map #[] 0)) w.heap.size 0 [] := ⟨_, World.ownsMap_made w Tryz.prog 9 unitElem, fun s => by simp [Maps.has]⟩
theorem zero120 (w : World) : (zeroValue 120).run Tryz.prog w = .ok (.agg #[]) w := by kernel_rfl
theorem NS.put {w : World} {b n : Nat} {l l' : List S} (h : NS w b n l) {s : S} (hs : s.length ≤ 1000000) (hn : n < maxLen) (hl : ∀ t, t ∈ l' ↔ t = s ∨ t ∈ l) :
    ∃ w', (Instr.mapUpdate 118 (.map (some b)) (.string (str s)) (.agg #[])).run Tryz.prog w = .ok () w' ∧ NS w' b (n + 1) l' ∧ w.grownBy w' (some b) := by
  obtain ⟨D, h1, h2⟩ := h
  obtain ⟨w', hr, ho, hg⟩ := h1.update Shf.law Tryz.underlying118 hn (Shf.key9 s hs) (unitElem_mk (H := Unit))
  refine ⟨w', hr, ⟨_, ho, fun t => ?_⟩, hg⟩
  by_cases e : t = s
  · subst e
    rw [Maps.has_put_same h1.isMap (Shf.keylit t)]
    exact (decide_eq_true ((hl t).2 (Or.inl rfl))).symm
  · rw [Maps.has_put_other (by intro e'; apply e; injection e'), h2]
    by_cases e2 : t ∈ l
    · rw [decide_eq_true e2, decide_eq_true ((hl t).2 (Or.inr e2))]
    · rw [decide_eq_false e2, decide_eq_false fun e3 => ((hl t).1 e3).elim e e2]
theorem NS.look {w : World} {b n : Nat} {l : List S} (h : NS w b n l) {s : S} (hs : s.length ≤ 1000000) :
    (Instr.lookup 118 (.map (some b)) (.string (str s)) true).run Tryz.prog w = .ok (.tuple #[.agg #[], .bool (decide (s ∈ l))]) w := by
  obtain ⟨D, h1, h2⟩ := h
  obtain ⟨v, ps, hr, hv⟩ := h1.look_ok Shf.law Tryz.underlying118 (zero120 w) (zd := .agg []) (zp := []) unitElem_mk (Shf.key9 s hs)
  obtain ⟨rfl, _⟩ := unitElem_inv hv
  rw [hr, h2]
def idxN : S := [105, 110, 100, 101, 120]
def CD.own0 (c : CD) : List S := if c.hB = 0 then [idxN] else [bName c.hB, idxN]
def CD.own (c : CD) : List S := c.vols.map (fun d => vName d.no) ++ c.own0
theorem vName_len (n : Nat) (h : n < 100) : (vName n).length ≤ 1000000 := by
  have : ∀ n : Fin 100, (vName n.1).length ≤ 1000000 := by decide +kernel
  exact this ⟨n, h⟩
theorem bName_len (n : Nat) (h : n < 100) : (bName n).length ≤ 1000000 := by
  have : ∀ n : Fin 100, (bName n.1).length ≤ 1000000 := by decide +kernel
  exact this ⟨n, h⟩
theorem take_names (l : List VolD) (j : Nat) (d : VolD) (h : l[j]? = some d) (r : List S) (t : S) : t ∈ (l.take (j + 1)).map (fun d => vName d.no) ++ r ↔ t = vName d.no ∨ t ∈ (l.take j).map (fun d => vName d.no) ++ r := by
  rw [List.take_add_one, h]
  simp only [Option.toList_some, List.map_append, List.map_cons, List.map_nil, List.mem_append, List.mem_singleton]
  constructor
  · rintro ((h | h) | h)
    · exact Or.inr (Or.inl h)
    · exact Or.inl h
    · exact Or.inr (Or.inr h)
  · rintro (h | h | h)
    · exact Or.inl (Or.inr h)
    · exact Or.inl (Or.inl h)
    · exact Or.inr h
theorem hw64 (j n : Nat) (h : j < n) (h2 : n ≤ 1000000) : wrap64 ((j : Int) + 1) = ((j + 1 : Nat) : Int) := by unfold wrap64; omega
theorem LAt.form {w : World} {T : Nat → Tag} {v : Value} {its : List ItD} {gl : Option Nat} (h : LAt w T v its gl) : ∃ A cap, v = .slice A its.length cap := by
  obtain ⟨ds, h1, h2, h3, h4⟩ := h
  obtain ⟨A, cap, e, _⟩ := h2.form
  exact ⟨A, cap, e⟩
theorem files_any (w : World) (T : Nat → Tag) (p q : Nat) (c : CD) (h : CAt lo w T p q c) (hs : c.Small) (hB : c.hB < 100) (hv : ∀ d ∈ c.vols, d.no < 100) : Calls Tryz.prog 72 #[.pointer (some ⟨p, 0, none⟩)] w fun e w' => ∃ b n, e = .returned (.map (some b)) ∧ NS w' b n c.own ∧ n ≤ c.vols.length + 2 ∧ w.heap.size ≤ b ∧ Below w.heap.size w w' := by
  obtain ⟨bA, bc, vv, gv, h⟩ := h
  obtain ⟨A, cap, rfl⟩ := h.nil
  have hr := h.row
  unfold cC at hr
  obtain ⟨n, hn⟩ : ∃ n, n = c.vols.length := ⟨_, rfl⟩
  obtain ⟨hb, hhb⟩ : ∃ n, n = c.hB := ⟨_, rfl⟩
  have HQ := Lib.hid (And.intro h.vs (And.intro hv (And.intro hs (And.intro hhb hn))))
  have hn6 : n ≤ 1000000 := by rw [hn]; exact hs.n
  rw [← hn, ← hhb] at hr
  rw [← hhb] at hB
  have hmm := @run_makeMap Tryz.prog
  obtain ⟨w1, hu, N1, G1⟩ := (NS.made w).put (s := idxN) (l' := [idxN]) (by decide) (by decide) (fun t => by simp)
  have B1 : Below w.heap.size w w1 := Coin.below_grown ((Below.refl _ _).alloc (Nat.le_refl _) _) G1 (Nat.le_refl _)
  unfold idxN str at hu
  obtain ⟨p0, p1, p2, p3, p4, p5, p6, p7, fz⟩ := row8 ((B1.block _ (Array.getElem?_eq_some_iff.1 hr).1).trans hr)
  have lp := (Array.getElem?_eq_some_iff.1 hr).1
  by_cases h0 : hb = 0
  · subst h0
    have HH := Lib.hid (And.intro N1 B1)
    clear N1 B1 G1 h hv hs hn hhb hB
    go_enter Tryz.func72, Tryz.ntmps72
    go_wp2
    go_loopw [28] (fun i wr => ∃ j : Nat, j ≤ n ∧ i = .int .i64 j ∧ Hid (∃ nn, nn ≤ 1 + j ∧ NS wr w.heap.size nn ((c.vols.take j).map (fun d => vName d.no) ++ [idxN]) ∧ Below w.heap.size w wr)) (fun i _ => n - (intOf i).toNat)
    case atStart => exact ⟨0, Nat.zero_le _, rfl, 1, Nat.le_refl _, ⟨HH.out.1, HH.out.2⟩⟩
    case round =>
      obtain ⟨j, hj, rfl, HL⟩ := hrel
      rcases Nat.lt_or_ge j n with hlt | hge
      · have hlt' : (j : Int) < n := by omega
        obtain ⟨nn, hnn, NN, BB⟩ := HL.out
        have hjv : j < c.vols.length := by rw [← HQ.out.2.2.2.2]; exact hlt
        obtain ⟨g, off, cap', lv, gl, ev, -, -, VA⟩ := (HQ.out.1.keep (kp_below BB T)).at j hjv
        injection ev with ev1 ev2 ev3
        obtain ⟨d, hd⟩ : ∃ d, d = c.vols[j] := ⟨_, rfl⟩
        rw [← hd] at VA
        have hdn : d.no < 100 := HQ.out.2.1 d (by rw [hd]; exact List.getElem_mem hjv)
        obtain ⟨k0, k1, k2, k3, fzv, la⟩ := VA
        obtain ⟨lA, lc, rfl⟩ := la.form
        obtain ⟨ln, hln⟩ : ∃ n, n = d.its.length := ⟨_, rfl⟩
        rw [← hln] at k2
        clear hln la
        have N2 := heap_alloc_new wr (.cells #[.int .u64 (d.no : Int), .int .u64 (d.first : Int), .slice lA ln lc, .int .i64 (d.size : Int)] 60)
        have B2 : Below wr.heap.size wr (wr.alloc (.cells #[.int .u64 (d.no : Int), .int .u64 (d.first : Int), .slice lA ln lc, .int .i64 (d.size : Int)] 60)) := (Below.refl _ _).alloc (Nat.le_refl _) _
        have NM2 : NS (wr.alloc (.cells #[.int .u64 (d.no : Int), .int .u64 (d.first : Int), .slice lA ln lc, .int .i64 (d.size : Int)] 60)) w.heap.size nn ((c.vols.take j).map (fun d => vName d.no) ++ [idxN]) := NN.kept (World.grownBy_alloc wr _ none) (by simp)
        obtain ⟨z0, z1, z2, z3, -⟩ := Frm.cells4 (heap_alloc_new wr (.cells #[.int .u64 0, .int .u64 0, .slice none 0 0, .int .i64 0] 60))
        have zf := fun i => frozen_of_row _ wr.heap.size i _ 60 (heap_alloc_new wr (.cells #[.int .u64 0, .int .u64 0, .slice none 0 0, .int .i64 0] 60))
        have hd2 : c.vols[j]? = some d := by rw [List.getElem?_eq_getElem hjv, hd]
        have HL2 := Lib.hid (And.intro hnn (And.intro BB hd2))
        subst ev1
        clear hnn NN BB HL ev2 ev3 hd2 hd hjv
        have N2 := Lib.hid N2
        go_upto_region 7 with (fail)
        generalize wr.alloc (.cells #[.int .u64 (d.no : Int), .int .u64 (d.first : Int), .slice lA ln lc, .int .i64 (d.size : Int)] 60) = w2 at *
        have hmx : nn < maxLen := by have e1 := HL2.out.1; unfold maxLen; omega
        obtain ⟨w3, hu3, N3, G3⟩ := NM2.put (s := vName d.no) (l' := (c.vols.take (j + 1)).map (fun d => vName d.no) ++ [idxN]) (vName_len _ hdn) hmx (fun t => take_names _ j d HL2.out.2.2 _ t)
        have B3 : Below w.heap.size w w3 := Coin.below_grown (HL2.out.2.1.trans (B2.mono HL2.out.2.1.size)) G3 (Nat.le_refl _)
        obtain ⟨k0, k1, k2, k3, fzv⟩ := Frm.cells4 N2.out
        have H3 := Lib.hid (And.intro N3 B3)
        clear N3 B3 G3 NM2 hmx N2 B2
        have HD := Lib.hid hdn
        clear hdn
        go_wp2_with (go_at_call 26; (refine (name_any _ _ HD.out).mono ?_); rintro e w' ⟨rfl, rfl⟩)
        go_roundw
        case rel => exact ⟨j + 1, hlt, by go_num, nn + 1, by have := HL2.out.1; omega, H3.out⟩
        case measure => simp [intOf]; omega
      · have he : j = n := by omega
        subst he
        have hge' : ¬ (j : Int) < j := by omega
        go_wp2
        go_ret
        obtain ⟨nn, hnn, NN, BB⟩ := HL.out
        have hl : (c.vols.take j).map (fun d => vName d.no) ++ [idxN] = c.own := by
          unfold CD.own CD.own0
          rw [List.take_of_length_le (by rw [← HQ.out.2.2.2.2]; exact Nat.le_refl _)]
          rw [if_pos HQ.out.2.2.2.1.symm]
        rw [hl] at NN
        exact ⟨w.heap.size, rfl, nn, NN, by rw [← HQ.out.2.2.2.2]; omega, Nat.le_refl _, BB⟩
  · have h0' : ¬ (hb : Int) = 0 := by omega
    obtain ⟨w2, hu2, N2, G2⟩ := N1.put (s := bName hb) (l' := [bName hb, idxN]) (bName_len _ hB) (by unfold maxLen; omega) (fun t => by simp)
    have B2 : Below w.heap.size w w2 := Coin.below_grown B1 G2 (Nat.le_refl _)
    have HR2 := Lib.hid (row8 ((B2.block _ (Array.getElem?_eq_some_iff.1 hr).1).trans hr))
    have HH := Lib.hid (And.intro N2 B2)
    have HB9 := Lib.hid (And.intro hB h0)
    clear N1 B1 G1 N2 B2 G2 h hv hs hn hhb hB h0
    go_enter Tryz.func72, Tryz.ntmps72
    go_upto_region 4 with (go_at_call 33; (refine (base_any _ _ HB9.out.1).mono ?_); rintro e w' ⟨rfl, rfl⟩)
    clear p0 p1 p2 p3 p4 p5 p6 p7 fz
    obtain ⟨p0, p1, p2, p3, p4, p5, p6, p7, fz⟩ := HR2.out
    go_wp2
    go_loopw [28] (fun i wr => ∃ j : Nat, j ≤ n ∧ i = .int .i64 j ∧ Hid (∃ nn, nn ≤ 2 + j ∧ NS wr w.heap.size nn ((c.vols.take j).map (fun d => vName d.no) ++ [bName hb, idxN]) ∧ Below w.heap.size w wr)) (fun i _ => n - (intOf i).toNat)
    case atStart => exact ⟨0, Nat.zero_le _, rfl, 2, Nat.le_refl _, ⟨HH.out.1, HH.out.2⟩⟩
    case round =>
      obtain ⟨j, hj, rfl, HL⟩ := hrel
      rcases Nat.lt_or_ge j n with hlt | hge
      · have hlt' : (j : Int) < n := by omega
        obtain ⟨nn, hnn, NN, BB⟩ := HL.out
        have hjv : j < c.vols.length := by rw [← HQ.out.2.2.2.2]; exact hlt
        obtain ⟨g, off, cap', lv, gl, ev, -, -, VA⟩ := (HQ.out.1.keep (kp_below BB T)).at j hjv
        injection ev with ev1 ev2 ev3
        obtain ⟨d, hd⟩ : ∃ d, d = c.vols[j] := ⟨_, rfl⟩
        rw [← hd] at VA
        have hdn : d.no < 100 := HQ.out.2.1 d (by rw [hd]; exact List.getElem_mem hjv)
        obtain ⟨k0, k1, k2, k3, fzv, la⟩ := VA
        obtain ⟨lA, lc, rfl⟩ := la.form
        obtain ⟨ln, hln⟩ : ∃ n, n = d.its.length := ⟨_, rfl⟩
        rw [← hln] at k2
        clear hln la
        have N2 := heap_alloc_new wr (.cells #[.int .u64 (d.no : Int), .int .u64 (d.first : Int), .slice lA ln lc, .int .i64 (d.size : Int)] 60)
        have B2 : Below wr.heap.size wr (wr.alloc (.cells #[.int .u64 (d.no : Int), .int .u64 (d.first : Int), .slice lA ln lc, .int .i64 (d.size : Int)] 60)) := (Below.refl _ _).alloc (Nat.le_refl _) _
        have NM2 : NS (wr.alloc (.cells #[.int .u64 (d.no : Int), .int .u64 (d.first : Int), .slice lA ln lc, .int .i64 (d.size : Int)] 60)) w.heap.size nn ((c.vols.take j).map (fun d => vName d.no) ++ [bName hb, idxN]) := NN.kept (World.grownBy_alloc wr _ none) (by simp)
        obtain ⟨z0, z1, z2, z3, -⟩ := Frm.cells4 (heap_alloc_new wr (.cells #[.int .u64 0, .int .u64 0, .slice none 0 0, .int .i64 0] 60))
        have zf := fun i => frozen_of_row _ wr.heap.size i _ 60 (heap_alloc_new wr (.cells #[.int .u64 0, .int .u64 0, .slice none 0 0, .int .i64 0] 60))
        have hd2 : c.vols[j]? = some d := by rw [List.getElem?_eq_getElem hjv, hd]
        have HL2 := Lib.hid (And.intro hnn (And.intro BB hd2))
        subst ev1
        clear hnn NN BB HL ev2 ev3 hd2 hd hjv
        have N2 := Lib.hid N2
        go_upto_region 7 with (fail)
        generalize wr.alloc (.cells #[.int .u64 (d.no : Int), .int .u64 (d.first : Int), .slice lA ln lc, .int .i64 (d.size : Int)] 60) = w2 at *
        have hmx : nn < maxLen := by have e1 := HL2.out.1; unfold maxLen; omega
        obtain ⟨w3, hu3, N3, G3⟩ := NM2.put (s := vName d.no) (l' := (c.vols.take (j + 1)).map (fun d => vName d.no) ++ [bName hb, idxN]) (vName_len _ hdn) hmx (fun t => take_names _ j d HL2.out.2.2 _ t)
        have B3 : Below w.heap.size w w3 := Coin.below_grown (HL2.out.2.1.trans (B2.mono HL2.out.2.1.size)) G3 (Nat.le_refl _)
        obtain ⟨k0, k1, k2, k3, fzv⟩ := Frm.cells4 N2.out
        have H3 := Lib.hid (And.intro N3 B3)
        clear N3 B3 G3 NM2 hmx N2 B2
        have HD := Lib.hid hdn
        clear hdn
        go_wp2_with (go_at_call 26; (refine (name_any _ _ HD.out).mono ?_); rintro e w' ⟨rfl, rfl⟩)
        go_roundw
        case rel => exact ⟨j + 1, hlt, by go_num, nn + 1, by have := HL2.out.1; omega, H3.out⟩
        case measure => simp [intOf]; omega
      · have he : j = n := by omega
        subst he
        have hge' : ¬ (j : Int) < j := by omega
        go_wp2
        go_ret
        obtain ⟨nn, hnn, NN, BB⟩ := HL.out
        have hl : (c.vols.take j).map (fun d => vName d.no) ++ [bName hb, idxN] = c.own := by
          unfold CD.own CD.own0
          rw [List.take_of_length_le (by rw [← HQ.out.2.2.2.2]; exact Nat.le_refl _)]
          rw [if_neg (by rw [← HQ.out.2.2.2.1]; exact HB9.out.2), ← HQ.out.2.2.2.1]
        rw [hl] at NN
        exact ⟨w.heap.size, rfl, nn, NN, by rw [← HQ.out.2.2.2.2]; omega, Nat.le_refl _, BB⟩
end Go.Proofs.YtdbhgkbmbbjpdaaGreatDoor.Chr
namespace Go.Proofs.YtdbhgkbmbbjpdaaGreatDoor.Chr
variable {lo : Nat}
open Go.ChangeShapes Go.WideShapes Go.ChangeAt Go.RowKit
open Shf (S str)
open Coin (Rd Row Own sz coin got Pur takeV endV CoinSaid)
open Frm (pack err size kind cnt body noItem itemV OneSaid)
set_option maxRecDepth 8000
set_option linter.unusedVariables false
open Shf (Tag Ext Rep M Strs strV delete_rep names_rep list_rep moves_any)
theorem strs_at {w : World} {B : Nat} {v : Value} {L : List S} (h : Strs w B v L) : ∃ A c, v = .slice A L.length c ∧ ∀ j (hj : j < L.length), ∃ b, A = some ⟨b, 0, none⟩ ∧ B ≤ b ∧ b < w.heap.size ∧ w.cell? ⟨b, j, none⟩ = some (.string (str L[j])) := by
  have hh := h
  rcases h.2 with ⟨rfl, h0⟩ | ⟨b, cap, cur, rfl, hB, h2, _⟩
  · exact ⟨none, 0, by rw [h0], fun j hj => by omega⟩
  · refine ⟨_, cap, rfl, fun j hj => ⟨b, rfl, hB, (Array.getElem?_eq_some_iff.1 h2).1, ?_⟩⟩
    rw [World.ownsRow.cellAt hh j (by omega)]
    rw [List.getElem?_map, List.getElem?_eq_getElem hj]; rfl
theorem moves_rep (w : World) (T : Nat → Tag) (q : Nat) (m : M) (R : Rep w T q m) : Calls Tryz.prog 74 #[.pointer (some ⟨q, 0, none⟩)] w fun e w' => e = .returned (.int .i64 (m.moves.length : Int)) ∧ w = w' := by
  obtain ⟨⟨nv, sv, mv, nn, ns, RV⟩, F⟩ := R
  obtain ⟨A, c, hv⟩ : ∃ A c, mv = .slice A m.moves.length c := by
    rcases RV.mo.2 with ⟨h, h0⟩ | ⟨g, cap, cur, h, _⟩
    · exact ⟨none, 0, by rw [h, h0]⟩
    · exact ⟨_, cap, h⟩
  subst hv
  exact moves_any w q m nv sv A m.moves.length c RV.sh
theorem rep_old {w : World} {T : Nat → Tag} {q : Nat} {m : M} (R : Rep w T q m) {b : Nat} (h : w.heap.size ≤ b) : T b = .none := by
  obtain ⟨⟨nv, sv, mv, nn, ns, RV⟩, F⟩ := R
  exact RV.out h
theorem ext_below {w w' : World} (B : Below w.heap.size w w') (T : Nat → Tag) : Ext w T w' T := ⟨B.os, B.tape, B.output, B.size, fun _ _ => rfl, fun b hb _ => B.block b hb⟩
theorem NS.keep {w w' : World} {b n : Nat} {l : List S} (h : NS w b n l) (e : w'.heap[b]? = w.heap[b]?) : NS w' b n l := by
  obtain ⟨D, ⟨es, clock, hb, r⟩, h2⟩ := h
  exact ⟨D, ⟨es, clock, e.trans hb, r⟩, h2⟩
def tidyL (own : List S) : List S → M → Nat × M
  | [], m => (0, m)
  | s :: l, m => if s ∈ own then tidyL own l m else if m.onE s = 0 then tidyL own l (m.delete s) else (m.onE s, m.delete s)
def tidyEnd (r : Nat × M) : Nat × M := if r.1 = 0 then (if r.2.moves.length = 0 then (0, r.2) else (r.2.actE, r.2.names)) else r
def tidyM (own : List S) (m : M) : Nat × M := tidyEnd (tidyL own m.list m)
theorem tidyL_at (own l : List S) (m : M) (j : Nat) (x : S) (h : l[j]? = some x) : tidyL own (l.drop j) m = if x ∈ own then tidyL own (l.drop (j + 1)) m else if m.onE x = 0 then tidyL own (l.drop (j + 1)) (m.delete x) else (m.onE x, m.delete x) := by
  obtain ⟨h1, h2⟩ := List.getElem?_eq_some_iff.1 h
  rw [List.drop_eq_getElem_cons h1, h2]
  rfl
set_option maxHeartbeats 2000000 in
theorem tidy_any (w : World) (T : Nat → Tag) (p q : Nat) (m : M) (c : CD) (R : Rep w T q m) (h : CAt lo w T p q c) (hs : c.Small) (hB : c.hB < 100) (hv : ∀ d ∈ c.vols, d.no < 100) (hd : m.done < 800000) (hl : m.list.length ≤ 10000) (hln : ∀ s ∈ m.list, s.length ≤ 1000) :
    Calls Tryz.prog 43 #[.pointer (some ⟨p, 0, none⟩)] w fun e w' => ∃ T', e = .returned (.int .i64 ((tidyM c.own m).1 : Int)) ∧ Rep w' T' q (tidyM c.own m).2 ∧ Ext w T w' T' := by
  have c72 := files_any w T p q c h hs hB hv
  obtain ⟨own, hown⟩ : ∃ o, o = c.own := ⟨_, rfl⟩
  obtain ⟨ls, hls⟩ : ∃ o, o = m.list := ⟨_, rfl⟩
  rw [← hown] at c72 ⊢
  have HP : Hid (∃ row, row[0]? = some (.pointer (some ⟨q, 0, none⟩)) ∧ w.heap[p]? = some (.cells row 82 (0, 0)) ∧ T p = .none) := by
    obtain ⟨bA, bc, vv, gv, h⟩ := h
    exact ⟨_, rfl, h.row, h.tp⟩
  have HK : Hid (∀ W T', Ext w T W T' → W.cell? ⟨p, 0, none⟩ = some (.pointer (some ⟨q, 0, none⟩))) := fun W T' X => by
    obtain ⟨row, h0, h1, h2⟩ := HP.out
    rw [cell_of_row W p 0 row 82 (0, 0) ((X.block p (Array.getElem?_eq_some_iff.1 h1).1 h2).trans h1)]
    exact h0
  have HM := Lib.hid (And.intro R (And.intro hd (And.intro hln (And.intro hl hls))))
  clear R h hs hB hv hd hln hl hls hown
  go_enter Tryz.func43, Tryz.ntmps43
  go_upto_region 2 with (go_at_call 72; (refine c72.mono ?_); rintro e w1 ⟨mb, nn, rfl, N1, -, hmb, B1⟩; have H1 := Lib.hid (And.intro N1 (And.intro hmb B1)); clear N1 hmb B1 c72)
  have c31 := list_rep w1 T q m (HM.out.1.below H1.out.2.2) (by have := HM.out.2.1; omega)
  have pc := HK.out w1 T (ext_below H1.out.2.2 T)
  rw [← HM.out.2.2.2.2] at c31
  go_upto_region 3 with (go_at_call 31; (refine c31.mono ?_); rintro e w2 ⟨v, rfl, hst, B2⟩; obtain ⟨A, cp, rfl, hat⟩ := strs_at hst; have H2 := Lib.hid (And.intro hat B2); clear hat B2 hst c31)
  clear pc
  have hT : T mb = .none := rep_old HM.out.1 H1.out.2.1
  have HT := Lib.hid hT
  clear hT
  obtain ⟨n, hn⟩ : ∃ n, n = ls.length := ⟨_, rfl⟩
  rw [← hn]
  have HN := Lib.hid hn
  have hn4 : n ≤ 10000 := by rw [hn, HM.out.2.2.2.2]; exact HM.out.2.2.2.1
  clear hn
  have HX0 : Hid (∃ T1 m1, tidyL own ls m = tidyL own (ls.drop 0) m1 ∧ m1.done ≤ m.done + 0 ∧ Rep w2 T1 q m1 ∧ Ext w2 T w2 T1) := ⟨T, m, rfl, Nat.le_refl _, (HM.out.1.below H1.out.2.2).below H2.out.2, Ext.refl _ _⟩
  go_loopw [17] (fun i wr => ∃ j : Nat, j ≤ n ∧ i = .int .i64 j ∧ Hid (∃ T1 m1, tidyL own ls m = tidyL own (ls.drop j) m1 ∧ m1.done ≤ m.done + j ∧ Rep wr T1 q m1 ∧ Ext w2 T wr T1)) (fun i _ => n - (intOf i).toNat)
  case atStart => exact ⟨0, Nat.zero_le _, rfl, HX0.out⟩
  case round =>
    obtain ⟨j, hj, rfl, HL⟩ := hrel
    rcases Nat.lt_or_ge j n with hlt | hge
    · have hlt' : (j : Int) < n := by omega
      obtain ⟨T1, m1, ht, hdn, R1, X1⟩ := HL.out
      have hjl : j < ls.length := by rw [← HN.out]; exact hlt
      obtain ⟨b9, hA, hb9, hb92, hcl⟩ := H2.out.1 j hjl
      have hx : ls[j]? = some ls[j] := List.getElem?_eq_getElem hjl
      obtain ⟨x, hxx⟩ : ∃ x, x = ls[j] := ⟨_, rfl⟩
      rw [← hxx] at hcl hx
      clear hxx
      subst hA
      have tb9 : T b9 = .none := rep_old HM.out.1 (Nat.le_trans H1.out.2.2.size hb9)
      have hcl' : wr.cell? ⟨b9, j, none⟩ = some (.string (str x)) := (World.cell?_of_block (a := ⟨b9, j, none⟩) (X1.block b9 hb92 tb9)).trans hcl
      have hxl : x.length ≤ 1000 := HM.out.2.2.1 x (by rw [← HM.out.2.2.2.2]; exact List.mem_of_getElem? hx)
      have NW : NS wr mb nn own := (H1.out.1.keep (H2.out.2.block mb H1.out.1.lt)).keep (X1.block mb (Nat.lt_of_lt_of_le H1.out.1.lt H2.out.2.size) HT.out)
      have HS := Lib.hid (And.intro ht (And.intro hdn (And.intro R1 (And.intro X1 (And.intro hx (And.intro hxl NW))))))
      clear ht hdn R1 X1 hx hjl hb9 hb92 tb9 hcl HL hxl NW
      by_cases hin : x ∈ own
      · have hlk : (Instr.lookup 118 (.map (some mb)) (.string (str x)) true).run Tryz.prog wr = .ok (.tuple #[.agg #[], .bool true]) wr := by
          have a := HS.out.2.2.2.2.2.2.look (s := x) (by have := HS.out.2.2.2.2.2.1; omega)
          rw [decide_eq_true hin] at a
          exact a
        have B6 : Below wr.heap.size wr (wr.alloc (.cells #[] 120)) := (Below.refl _ _).alloc (Nat.le_refl _) _
        have HIN := Lib.hid (And.intro hin B6)
        clear hin B6
        go_wp2
        go_roundw
        case rel => exact ⟨j + 1, by omega, by go_num, T1, m1, HS.out.1.trans ((tidyL_at own ls m1 j x HS.out.2.2.2.2.1).trans (if_pos HIN.out.1)), by have := HS.out.2.1; omega, HS.out.2.2.1.below HIN.out.2, HS.out.2.2.2.1.trans (ext_below HIN.out.2 T1)⟩
        case measure => simp [intOf]; omega
      · have hlk : (Instr.lookup 118 (.map (some mb)) (.string (str x)) true).run Tryz.prog wr = .ok (.tuple #[.agg #[], .bool false]) wr := by
          have a := HS.out.2.2.2.2.2.2.look (s := x) (by have := HS.out.2.2.2.2.2.1; omega)
          rw [decide_eq_false hin] at a
          exact a
        have B6 : Below wr.heap.size wr (wr.alloc (.cells #[] 120)) := (Below.refl _ _).alloc (Nat.le_refl _) _
        have HIN := Lib.hid (And.intro hin B6)
        clear hin B6
        go_upto_region 7 with (fail)
        generalize wr.alloc (.cells #[] 120) = w3 at *
        clear hlk hcl'
        have X3 := HS.out.2.2.2.1.trans (ext_below HIN.out.2 T1)
        have pc := HK.out w3 T1 ((ext_below (H1.out.2.2.trans (H2.out.2.mono H1.out.2.2.size)) T).trans X3)
        have c73 := delete_rep w3 T1 q m1 x (HS.out.2.2.1.below HIN.out.2) (by have e1 := HS.out.2.1; have e2 := HM.out.2.1; omega) HS.out.2.2.2.2.2.1
        have HX3 := Lib.hid X3
        clear X3
        obtain ⟨co, hco⟩ : ∃ o : Nat, o = m1.onE x := ⟨_, rfl⟩
        rw [← hco] at c73
        have HCO := Lib.hid hco
        clear hco
        by_cases h0 : co = 0
        · have h0' : (co : Int) = 0 := by omega
          have HC0 := Lib.hid h0
          clear h0
          go_wp2_with (go_at_call 73; (refine c73.mono ?_); rintro e w4 ⟨rfl, T4, R4, X4⟩; have H4 := Lib.hid (And.intro R4 X4); clear R4 X4 c73)
          go_roundw
          case rel => exact ⟨j + 1, by omega, by go_num, T4, m1.delete x, HS.out.1.trans ((tidyL_at own ls m1 j x HS.out.2.2.2.2.1).trans ((if_neg HIN.out.1).trans (if_pos (HCO.out.symm.trans HC0.out)))), by have := HS.out.2.1; have := (sm_delete m1 x).1; omega, H4.out.1, HX3.out.trans H4.out.2⟩
          case measure => simp [intOf]; omega
        · have h0' : ¬ (co : Int) = 0 := by omega
          have HC0 := Lib.hid h0
          clear h0
          go_wp2_with (go_at_call 73; (refine c73.mono ?_); rintro e w4 ⟨rfl, T4, R4, X4⟩; have H4 := Lib.hid (And.intro R4 X4); clear R4 X4 c73)
          go_ret
          have ht : tidyM own m = (co, m1.delete x) := by
            unfold tidyM
            rw [← HM.out.2.2.2.2, HS.out.1.trans ((tidyL_at own ls m1 j x HS.out.2.2.2.2.1).trans ((if_neg HIN.out.1).trans (if_neg (by rw [← HCO.out]; exact HC0.out)))), ← HCO.out]
            exact if_neg HC0.out
          rw [ht]
          exact ⟨T4, rfl, H4.out.1, ((ext_below (H1.out.2.2.trans (H2.out.2.mono H1.out.2.2.size)) T).trans HX3.out).trans H4.out.2⟩
    · have he : j = n := by omega
      subst he
      have hge' : ¬ (j : Int) < j := by omega
      obtain ⟨T1, m1, ht, hdn, R1, X1⟩ := HL.out
      rw [List.drop_of_length_le (by rw [← HN.out]; exact Nat.le_refl _)] at ht
      have hM : tidyM own m = tidyEnd (0, m1) := by unfold tidyM; rw [← HM.out.2.2.2.2, ht]; rfl
      have XW := (ext_below (H1.out.2.2.trans (H2.out.2.mono H1.out.2.2.size)) T).trans X1
      have pc := HK.out wr T1 XW
      have c74 := moves_rep wr T1 q m1 R1
      have c15 := names_rep wr T1 q m1 R1 (by have e2 := HM.out.2.1; omega)
      obtain ⟨k, hk⟩ : ∃ o : Nat, o = m1.moves.length := ⟨_, rfl⟩
      obtain ⟨co, hco⟩ : ∃ o : Nat, o = m1.actE := ⟨_, rfl⟩
      rw [← hk] at c74
      rw [← hco] at c15
      have HS := Lib.hid (And.intro hM (And.intro R1 (And.intro XW (And.intro hk hco))))
      clear hM R1 XW X1 ht hdn hk hco HL
      by_cases h0 : k = 0
      · have h0' : (k : Int) = 0 := by omega
        have HC0 := Lib.hid h0
        clear h0 c15
        go_wp2_with (go_at_call 74; (refine c74.mono ?_); rintro e w4 ⟨rfl, rfl⟩; clear c74)
        go_ret
        rw [HS.out.1]
        unfold tidyEnd
        rw [if_pos rfl, if_pos (HS.out.2.2.2.1.symm.trans HC0.out)]
        exact ⟨T1, rfl, HS.out.2.1, HS.out.2.2.1⟩
      · have h0' : ¬ (k : Int) = 0 := by omega
        have HC0 := Lib.hid h0
        clear h0
        go_wp2_with (first | (go_at_call 74; (refine c74.mono ?_); rintro e w4 ⟨rfl, rfl⟩; clear c74) | (go_at_call 15; (refine c15.mono ?_); rintro e w4 ⟨rfl, T4, R4, X4⟩; have H4 := Lib.hid (And.intro R4 X4); clear R4 X4 c15))
        go_ret
        rw [HS.out.1]
        unfold tidyEnd
        rw [if_pos rfl, if_neg (by rw [← HS.out.2.2.2.1]; exact HC0.out), ← HS.out.2.2.2.2]
        exact ⟨T4, rfl, H4.out.1, HS.out.2.2.1.trans H4.out.2⟩
def undoM (own : List S) (m : M) (e : Nat) : Nat × M := (if (tidyM own m).1 = 0 then e else (tidyM own m).1, (tidyM own m).2)
theorem undo_any (w : World) (T : Nat → Tag) (p q : Nat) (m : M) (c : CD) (e0 : Nat) (R : Rep w T q m) (h : CAt lo w T p q c) (hs : c.Small) (hB : c.hB < 100) (hv : ∀ d ∈ c.vols, d.no < 100) (hd : m.done < 800000) (hl : m.list.length ≤ 10000) (hln : ∀ s ∈ m.list, s.length ≤ 1000) :
    Calls Tryz.prog 80 #[.pointer (some ⟨p, 0, none⟩), .int .i64 (e0 : Int)] w fun e w' => ∃ T', e = .returned (.int .i64 ((undoM c.own m e0).1 : Int)) ∧ Rep w' T' q (undoM c.own m e0).2 ∧ Ext w T w' T' := by
  have c43 := tidy_any w T p q m c R h hs hB hv hd hl hln
  clear R h hs hB hv hd hl hln
  unfold undoM
  generalize tidyM c.own m = r at *
  obtain ⟨k, m1⟩ := r
  by_cases h0 : k = 0
  · have h0' : (k : Int) = 0 := by omega
    have HC0 := Lib.hid h0
    clear h0
    go_enter Tryz.func80, Tryz.ntmps80
    go_wp2_with (go_at_call 43; (refine c43.mono ?_); rintro e w4 ⟨T4, rfl, R4, X4⟩; have H4 := Lib.hid (And.intro R4 X4); clear R4 X4 c43)
    go_ret
    exact ⟨rfl, T4, H4.out⟩
  · have h0' : ¬ (k : Int) = 0 := by omega
    have HC0 := Lib.hid h0
    clear h0
    go_enter Tryz.func80, Tryz.ntmps80
    go_wp2_with (go_at_call 43; (refine c43.mono ?_); rintro e w4 ⟨T4, rfl, R4, X4⟩; have H4 := Lib.hid (And.intro R4 X4); clear R4 X4 c43)
    go_ret
    exact ⟨rfl, T4, H4.out⟩
end Go.Proofs.YtdbhgkbmbbjpdaaGreatDoor.Chr
