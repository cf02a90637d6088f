/- The chronicle's own files: a set of names. -/
import Derived.Test.YtdbhgkbmbbjpdaaGreatDoorNj
import Derived.Test.YtdbhgkbmbbjpdaaGreatDoorShz
import Derived.Maps.OwnSet
namespace Go.Proofs.YtdbhgkbmbbjpdaaGreatDoor.Chr
variable {lo : Nat}
open Go.ChangeShapes Go.WideShapes Go.ChangeAt Go.RowKit
open Shf (S str)
open Coin (Rd Row Own sz coin got Pur takeV endV CoinSaid)
open Frm (pack err size kind cnt body noItem itemV OneSaid)
set_option maxRecDepth 8000
open Shf (Tag Ext Rep M)
def NS (w : World) (b n : Nat) (l : List S) : Prop := ∃ D : DataW Unit, w.ownsMap Tryz.prog 9 unitElem b n D ∧ ∀ s : S, Maps.has D (.string s) = decide (s ∈ l)
theorem NS.kept {w w' : World} {b n : Nat} {l : List S} {row : Option Nat} (h : NS w b n l) (hg : w.grownBy w' row) (hne : some b ≠ row) : NS w' b n l := by
  obtain ⟨D, h1, h2⟩ := h; exact ⟨D, h1.kept hg hne, h2⟩
theorem NS.lt {w : World} {b n : Nat} {l : List S} (h : NS w b n l) : b < w.heap.size := by obtain ⟨D, h1, _⟩ := h; exact h1.lt
theorem NS.made (w : World) : NS (w.alloc (.map #[] 0)) w.heap.size 0 [] := ⟨_, World.ownsMap_made w Tryz.prog 9 unitElem, fun s => by simp [Maps.has]⟩
theorem zero120 (w : World) : (zeroValue 120).run Tryz.prog w = .ok (.agg #[]) w := by kernel_rfl
theorem NS.put {w : World} {b n : Nat} {l l' : List S} (h : NS w b n l) {s : S} (hs : s.length ≤ 1000000) (hn : n < maxLen) (hl : ∀ t, t ∈ l' ↔ t = s ∨ t ∈ l) :
    ∃ w', (Instr.mapUpdate 118 (.map (some b)) (.string (str s)) (.agg #[])).run Tryz.prog w = .ok () w' ∧ NS w' b (n + 1) l' ∧ w.grownBy w' (some b) := by
  obtain ⟨D, h1, h2⟩ := h
  obtain ⟨w', hr, ho, hg⟩ := h1.update Shf.law Tryz.underlying118 hn (Shf.key9 s hs) (unitElem_mk (H := Unit))
  refine ⟨w', hr, ⟨_, ho, fun t => ?_⟩, hg⟩
  by_cases e : t = s
  · subst e
    rw [Maps.has_put_same h1.isMap (Shf.keylit t)]
    exact (decide_eq_true ((hl t).2 (Or.inl rfl))).symm
  · rw [Maps.has_put_other (by intro e'; apply e; injection e'), h2]
    by_cases e2 : t ∈ l
    · rw [decide_eq_true e2, decide_eq_true ((hl t).2 (Or.inr e2))]
    · rw [decide_eq_false e2, decide_eq_false fun e3 => ((hl t).1 e3).elim e e2]
theorem NS.look {w : World} {b n : Nat} {l : List S} (h : NS w b n l) {s : S} (hs : s.length ≤ 1000000) :
    (Instr.lookup 118 (.map (some b)) (.string (str s)) true).run Tryz.prog w = .ok (.tuple #[.agg #[], .bool (decide (s ∈ l))]) w := by
  obtain ⟨D, h1, h2⟩ := h
  obtain ⟨v, ps, hr, hv⟩ := h1.look_ok Shf.law Tryz.underlying118 (zero120 w) (zd := .agg []) (zp := []) unitElem_mk (Shf.key9 s hs)
  obtain ⟨rfl, _⟩ := unitElem_inv hv
  rw [hr, h2]
def idxN : S := [105, 110, 100, 101, 120]
def CD.own0 (c : CD) : List S := if c.hB = 0 then [idxN] else [bName c.hB, idxN]
def CD.own (c : CD) : List S := c.vols.map (fun d => vName d.no) ++ c.own0
theorem vName_len (n : Nat) (h : n < 100) : (vName n).length ≤ 1000000 := by
  have : ∀ n : Fin 100, (vName n.1).length ≤ 1000000 := by decide +kernel
  exact this ⟨n, h⟩
theorem bName_len (n : Nat) (h : n < 100) : (bName n).length ≤ 1000000 := by
  have : ∀ n : Fin 100, (bName n.1).length ≤ 1000000 := by decide +kernel
  exact this ⟨n, h⟩
theorem take_names (l : List VolD) (j : Nat) (d : VolD) (h : l[j]? = some d) (r : List S) (t : S) : t ∈ (l.take (j + 1)).map (fun d => vName d.no) ++ r ↔ t = vName d.no ∨ t ∈ (l.take j).map (fun d => vName d.no) ++ r := by
  rw [List.take_add_one, h]
  simp only [Option.toList_some, List.map_append, List.map_cons, List.map_nil, List.mem_append, List.mem_singleton]
  constructor
  · rintro ((h | h) | h)
    · exact Or.inr (Or.inl h)
    · exact Or.inl h
    · exact Or.inr (Or.inr h)
  · rintro (h | h | h)
    · exact Or.inl (Or.inr h)
    · exact Or.inl (Or.inl h)
    · exact Or.inr h
theorem hw64 (j n : Nat) (h : j < n) (h2 : n ≤ 1000000) : wrap64 ((j : Int) + 1) = ((j + 1 : Nat) : Int) := by unfold wrap64; omega
theorem LAt.form {w : World} {T : Nat → Tag} {v : Value} {its : List ItD} {gl : Option Nat} (h : LAt w T v its gl) : ∃ A cap, v = .slice A its.length cap := by
  obtain ⟨ds, h1, h2, h3, h4⟩ := h
  obtain ⟨A, cap, e, _⟩ := h2.form
  exact ⟨A, cap, e⟩
theorem files_any (w : World) (T : Nat → Tag) (p q : Nat) (c : CD) (h : CAt lo w T p q c) (hs : c.Small) (hB : c.hB < 100) (hv : ∀ d ∈ c.vols, d.no < 100) : Calls Tryz.prog 72 #[.pointer (some ⟨p, 0, none⟩)] w fun e w' => ∃ b n, e = .returned (.map (some b)) ∧ NS w' b n c.own ∧ n ≤ c.vols.length + 2 ∧ w.heap.size ≤ b ∧ Below w.heap.size w w' := by
  obtain ⟨bA, bc, vv, gv, h⟩ := h
  obtain ⟨A, cap, rfl⟩ := h.nil
  have hr := h.row
  unfold cC at hr
  obtain ⟨n, hn⟩ : ∃ n, n = c.vols.length := ⟨_, rfl⟩
  obtain ⟨hb, hhb⟩ : ∃ n, n = c.hB := ⟨_, rfl⟩
  have HQ := Lib.hid (And.intro h.vs (And.intro hv (And.intro hs (And.intro hhb hn))))
  have hn6 : n ≤ 1000000 := by rw [hn]; exact hs.n
  rw [← hn, ← hhb] at hr
  rw [← hhb] at hB
  have hmm := @run_makeMap Tryz.prog
  obtain ⟨w1, hu, N1, G1⟩ := (NS.made w).put (s := idxN) (l' := [idxN]) (by decide) (by decide) (fun t => by simp)
  have B1 : Below w.heap.size w w1 := Coin.below_grown ((Below.refl _ _).alloc (Nat.le_refl _) _) G1 (Nat.le_refl _)
  unfold idxN str at hu
  obtain ⟨p0, p1, p2, p3, p4, p5, p6, p7, fz⟩ := row8 ((B1.block _ (Array.getElem?_eq_some_iff.1 hr).1).trans hr)
  have lp := (Array.getElem?_eq_some_iff.1 hr).1
  by_cases h0 : hb = 0
  · subst h0
    have HH := Lib.hid (And.intro N1 B1)
    clear N1 B1 G1 h hv hs hn hhb hB
    go_enter Tryz.func72, Tryz.ntmps72
    go_wp2
    go_loopw [28] (fun i wr => ∃ j : Nat, j ≤ n ∧ i = .int .i64 j ∧ Hid (∃ nn, nn ≤ 1 + j ∧ NS wr w.heap.size nn ((c.vols.take j).map (fun d => vName d.no) ++ [idxN]) ∧ Below w.heap.size w wr)) (fun i _ => n - (intOf i).toNat)
    case atStart => exact ⟨0, Nat.zero_le _, rfl, 1, Nat.le_refl _, ⟨HH.out.1, HH.out.2⟩⟩
    case round =>
      obtain ⟨j, hj, rfl, HL⟩ := hrel
      rcases Nat.lt_or_ge j n with hlt | hge
      · have hlt' : (j : Int) < n := by omega
        obtain ⟨nn, hnn, NN, BB⟩ := HL.out
        have hjv : j < c.vols.length := by rw [← HQ.out.2.2.2.2]; exact hlt
        obtain ⟨g, off, cap', lv, gl, ev, -, -, VA⟩ := (HQ.out.1.keep (kp_below BB T)).at j hjv
        injection ev with ev1 ev2 ev3
        obtain ⟨d, hd⟩ : ∃ d, d = c.vols[j] := ⟨_, rfl⟩
        rw [← hd] at VA
        have hdn : d.no < 100 := HQ.out.2.1 d (by rw [hd]; exact List.getElem_mem hjv)
        obtain ⟨k0, k1, k2, k3, fzv, la⟩ := VA
        obtain ⟨lA, lc, rfl⟩ := la.form
        obtain ⟨ln, hln⟩ : ∃ n, n = d.its.length := ⟨_, rfl⟩
        rw [← hln] at k2
        clear hln la
        have N2 := heap_alloc_new wr (.cells #[.int .u64 (d.no : Int), .int .u64 (d.first : Int), .slice lA ln lc, .int .i64 (d.size : Int)] 60)
        have B2 : Below wr.heap.size wr (wr.alloc (.cells #[.int .u64 (d.no : Int), .int .u64 (d.first : Int), .slice lA ln lc, .int .i64 (d.size : Int)] 60)) := (Below.refl _ _).alloc (Nat.le_refl _) _
        have NM2 : NS (wr.alloc (.cells #[.int .u64 (d.no : Int), .int .u64 (d.first : Int), .slice lA ln lc, .int .i64 (d.size : Int)] 60)) w.heap.size nn ((c.vols.take j).map (fun d => vName d.no) ++ [idxN]) := NN.kept (World.grownBy_alloc wr _ none) (by simp)
        obtain ⟨z0, z1, z2, z3, -⟩ := Frm.cells4 (heap_alloc_new wr (.cells #[.int .u64 0, .int .u64 0, .slice none 0 0, .int .i64 0] 60))
        have zf := fun i => frozen_of_row _ wr.heap.size i _ 60 (heap_alloc_new wr (.cells #[.int .u64 0, .int .u64 0, .slice none 0 0, .int .i64 0] 60))
        have hd2 : c.vols[j]? = some d := by rw [List.getElem?_eq_getElem hjv, hd]
        have HL2 := Lib.hid (And.intro hnn (And.intro BB hd2))
        subst ev1
        clear hnn NN BB HL ev2 ev3 hd2 hd hjv
        have N2 := Lib.hid N2
        go_upto_region 7 with (fail)
        generalize wr.alloc (.cells #[.int .u64 (d.no : Int), .int .u64 (d.first : Int), .slice lA ln lc, .int .i64 (d.size : Int)] 60) = w2 at *
        have hmx : nn < maxLen := by have e1 := HL2.out.1; unfold maxLen; omega
        obtain ⟨w3, hu3, N3, G3⟩ := NM2.put (s := vName d.no) (l' := (c.vols.take (j + 1)).map (fun d => vName d.no) ++ [idxN]) (vName_len _ hdn) hmx (fun t => take_names _ j d HL2.out.2.2 _ t)
        have B3 : Below w.heap.size w w3 := Coin.below_grown (HL2.out.2.1.trans (B2.mono HL2.out.2.1.size)) G3 (Nat.le_refl _)
        obtain ⟨k0, k1, k2, k3, fzv⟩ := Frm.cells4 N2.out
        have H3 := Lib.hid (And.intro N3 B3)
        clear N3 B3 G3 NM2 hmx N2 B2
        have HD := Lib.hid hdn
        clear hdn
        go_wp2_with (go_at_call 26; (refine (name_any _ _ HD.out).mono ?_); rintro e w' ⟨rfl, rfl⟩)
        go_roundw
        case rel => exact ⟨j + 1, hlt, by go_num, nn + 1, by have := HL2.out.1; omega, H3.out⟩
        case measure => simp [intOf]; omega
      · have he : j = n := by omega
        subst he
        have hge' : ¬ (j : Int) < j := by omega
        go_wp2
        go_ret
        obtain ⟨nn, hnn, NN, BB⟩ := HL.out
        have hl : (c.vols.take j).map (fun d => vName d.no) ++ [idxN] = c.own := by
          unfold CD.own CD.own0
          rw [List.take_of_length_le (by rw [← HQ.out.2.2.2.2]; exact Nat.le_refl _)]
          rw [if_pos HQ.out.2.2.2.1.symm]
        rw [hl] at NN
        exact ⟨w.heap.size, rfl, nn, NN, by rw [← HQ.out.2.2.2.2]; omega, Nat.le_refl _, BB⟩
  · have h0' : ¬ (hb : Int) = 0 := by omega
    obtain ⟨w2, hu2, N2, G2⟩ := N1.put (s := bName hb) (l' := [bName hb, idxN]) (bName_len _ hB) (by unfold maxLen; omega) (fun t => by simp)
    have B2 : Below w.heap.size w w2 := Coin.below_grown B1 G2 (Nat.le_refl _)
    have HR2 := Lib.hid (row8 ((B2.block _ (Array.getElem?_eq_some_iff.1 hr).1).trans hr))
    have HH := Lib.hid (And.intro N2 B2)
    have HB9 := Lib.hid (And.intro hB h0)
    clear N1 B1 G1 N2 B2 G2 h hv hs hn hhb hB h0
    go_enter Tryz.func72, Tryz.ntmps72
    go_upto_region 4 with (go_at_call 33; (refine (base_any _ _ HB9.out.1).mono ?_); rintro e w' ⟨rfl, rfl⟩)
    clear p0 p1 p2 p3 p4 p5 p6 p7 fz
    obtain ⟨p0, p1, p2, p3, p4, p5, p6, p7, fz⟩ := HR2.out
    go_wp2
    go_loopw [28] (fun i wr => ∃ j : Nat, j ≤ n ∧ i = .int .i64 j ∧ Hid (∃ nn, nn ≤ 2 + j ∧ NS wr w.heap.size nn ((c.vols.take j).map (fun d => vName d.no) ++ [bName hb, idxN]) ∧ Below w.heap.size w wr)) (fun i _ => n - (intOf i).toNat)
    case atStart => exact ⟨0, Nat.zero_le _, rfl, 2, Nat.le_refl _, ⟨HH.out.1, HH.out.2⟩⟩
    case round =>
      obtain ⟨j, hj, rfl, HL⟩ := hrel
      rcases Nat.lt_or_ge j n with hlt | hge
      · have hlt' : (j : Int) < n := by omega
        obtain ⟨nn, hnn, NN, BB⟩ := HL.out
        have hjv : j < c.vols.length := by rw [← HQ.out.2.2.2.2]; exact hlt
        obtain ⟨g, off, cap', lv, gl, ev, -, -, VA⟩ := (HQ.out.1.keep (kp_below BB T)).at j hjv
        injection ev with ev1 ev2 ev3
        obtain ⟨d, hd⟩ : ∃ d, d = c.vols[j] := ⟨_, rfl⟩
        rw [← hd] at VA
        have hdn : d.no < 100 := HQ.out.2.1 d (by rw [hd]; exact List.getElem_mem hjv)
        obtain ⟨k0, k1, k2, k3, fzv, la⟩ := VA
        obtain ⟨lA, lc, rfl⟩ := la.form
        obtain ⟨ln, hln⟩ : ∃ n, n = d.its.length := ⟨_, rfl⟩
        rw [← hln] at k2
        clear hln la
        have N2 := heap_alloc_new wr (.cells #[.int .u64 (d.no : Int), .int .u64 (d.first : Int), .slice lA ln lc, .int .i64 (d.size : Int)] 60)
        have B2 : Below wr.heap.size wr (wr.alloc (.cells #[.int .u64 (d.no : Int), .int .u64 (d.first : Int), .slice lA ln lc, .int .i64 (d.size : Int)] 60)) := (Below.refl _ _).alloc (Nat.le_refl _) _
        have NM2 : NS (wr.alloc (.cells #[.int .u64 (d.no : Int), .int .u64 (d.first : Int), .slice lA ln lc, .int .i64 (d.size : Int)] 60)) w.heap.size nn ((c.vols.take j).map (fun d => vName d.no) ++ [bName hb, idxN]) := NN.kept (World.grownBy_alloc wr _ none) (by simp)
        obtain ⟨z0, z1, z2, z3, -⟩ := Frm.cells4 (heap_alloc_new wr (.cells #[.int .u64 0, .int .u64 0, .slice none 0 0, .int .i64 0] 60))
        have zf := fun i => frozen_of_row _ wr.heap.size i _ 60 (heap_alloc_new wr (.cells #[.int .u64 0, .int .u64 0, .slice none 0 0, .int .i64 0] 60))
        have hd2 : c.vols[j]? = some d := by rw [List.getElem?_eq_getElem hjv, hd]
        have HL2 := Lib.hid (And.intro hnn (And.intro BB hd2))
        subst ev1
        clear hnn NN BB HL ev2 ev3 hd2 hd hjv
        have N2 := Lib.hid N2
        go_upto_region 7 with (fail)
        generalize wr.alloc (.cells #[.int .u64 (d.no : Int), .int .u64 (d.first : Int), .slice lA ln lc, .int .i64 (d.size : Int)] 60) = w2 at *
        have hmx : nn < maxLen := by have e1 := HL2.out.1; unfold maxLen; omega
        obtain ⟨w3, hu3, N3, G3⟩ := NM2.put (s := vName d.no) (l' := (c.vols.take (j + 1)).map (fun d => vName d.no) ++ [bName hb, idxN]) (vName_len _ hdn) hmx (fun t => take_names _ j d HL2.out.2.2 _ t)
        have B3 : Below w.heap.size w w3 := Coin.below_grown (HL2.out.2.1.trans (B2.mono HL2.out.2.1.size)) G3 (Nat.le_refl _)
        obtain ⟨k0, k1, k2, k3, fzv⟩ := Frm.cells4 N2.out
        have H3 := Lib.hid (And.intro N3 B3)
        clear N3 B3 G3 NM2 hmx N2 B2
        have HD := Lib.hid hdn
        clear hdn
        go_wp2_with (go_at_call 26; (refine (name_any _ _ HD.out).mono ?_); rintro e w' ⟨rfl, rfl⟩)
        go_roundw
        case rel => exact ⟨j + 1, hlt, by go_num, nn + 1, by have := HL2.out.1; omega, H3.out⟩
        case measure => simp [intOf]; omega
      · have he : j = n := by omega
        subst he
        have hge' : ¬ (j : Int) < j := by omega
        go_wp2
        go_ret
        obtain ⟨nn, hnn, NN, BB⟩ := HL.out
        have hl : (c.vols.take j).map (fun d => vName d.no) ++ [bName hb, idxN] = c.own := by
          unfold CD.own CD.own0
          rw [List.take_of_length_le (by rw [← HQ.out.2.2.2.2]; exact Nat.le_refl _)]
          rw [if_neg (by rw [← HQ.out.2.2.2.1]; exact HB9.out.2), ← HQ.out.2.2.2.1]
        rw [hl] at NN
        exact ⟨w.heap.size, rfl, nn, NN, by rw [← HQ.out.2.2.2.2]; omega, Nat.le_refl _, BB⟩
end Go.Proofs.YtdbhgkbmbbjpdaaGreatDoor.Chr
