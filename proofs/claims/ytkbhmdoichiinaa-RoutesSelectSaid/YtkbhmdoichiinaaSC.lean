/- The law's own small functions; the example. -/
import Derived.Test.YtkbhmdoichiinaaSB
namespace Go.Proofs.Ytkbhmdoichiinaa.Rts
open Pre Ser
open Go.Proofs.Ytkbhmdoichiinaa.Src (row1 row2)
open Go.ChangeShapes Go.WideShapes Go.ChangeAt Go.RowKit
set_option maxRecDepth 8000
set_option linter.unusedVariables false

open Go.Proofs.Ytkbhmdoichiinaa.Src (Mk SrcAt pA pN)
theorem do_any (w : World) (lo q : Nat) (v : Value) (L l : List E) (A : Option Addr) (c n now : Nat) (d : ActD) (hn : n = l.length) (hP : PL lo w q L v (.slice A n c) l) (hI : Inv L l now) (hlen : n ≤ 100) (hd : d.Ok) (hnow : now < 1000000) :
    Calls Try.prog 10 #[.pointer (some ⟨q, 0, none⟩), .agg #[.slice A n c, .int .u64 (now : Int)], .agg #[.int .u8 (d.K : Int), .int .u8 (d.B : Int), .int .u8 (d.P : Int), .int .u8 (d.Q : Int), .int .u16 (d.M : Int)]] w (DoSaid lo w q v (d.rts now L) (d.lst now l) (d.time now)) := by
  by_cases h6 : d.K % 11 = 6
  · exact do_tellA w lo q v L l A c n now d hn hP hI hlen hd hnow h6
  · by_cases h7 : d.K % 11 < 6
    · by_cases hM : d.M = 65535
      · exact do_tellB w lo q v L l A c n now d hn hP hI hlen hd hnow h7 hM
      · exact do_tellC w lo q v L l A c n now d hn hP hI hlen hd hnow h7 (by have := hd.M; omega)
    · by_cases h8 : d.K % 11 = 7
      · exact do_drop w lo q v L l A c n now d hn hP hI hlen hd hnow h8
      · exact do_tick w lo q v L l A c n now d hn hP hI hlen hd hnow (by omega)
def cfG (k : Nat) : Nat := if k < 8 then 96 else 65535
def cfL (k : Nat) : Nat := [96, 1, 65535, 300, 96, 65534, 10].getD k 65535
theorem good_any (w : World) : Calls Try.prog 29 #[] w fun e w' => e = .returned (.slice (some ⟨w.heap.size, 0, none⟩) 8 8) ∧ w' = w.alloc (.cells #[.int .u16 96, .int .u16 96, .int .u16 96, .int .u16 96, .int .u16 96, .int .u16 96, .int .u16 96, .int .u16 96] 32) := by
  go_enter Try.func29, Try.ntmps29
  go_wp2
  go_ret
  exact ⟨rfl, rfl⟩
theorem good_cost (w : World) : CostAt (w.alloc (.cells #[.int .u16 96, .int .u16 96, .int .u16 96, .int .u16 96, .int .u16 96, .int .u16 96, .int .u16 96, .int .u16 96] 32)) (some ⟨w.heap.size, 0, none⟩) 8 cfG := by
  refine ⟨fun k hk => ⟨w.heap.size, 0, rfl, by simp, ?_⟩, fun k hk => by unfold cfG; rw [if_neg (by omega)], fun k => by unfold cfG; split <;> omega⟩
  rw [Nat.zero_add, cell_of_row _ _ k _ 32 (0, 0) (heap_alloc_new w (.cells #[.int .u16 96, .int .u16 96, .int .u16 96, .int .u16 96, .int .u16 96, .int .u16 96, .int .u16 96, .int .u16 96] 32))]
  unfold cfG
  rw [if_pos hk]
  have h : k = 0 ∨ k = 1 ∨ k = 2 ∨ k = 3 ∨ k = 4 ∨ k = 5 ∨ k = 6 ∨ k = 7 := by omega
  rcases h with rfl | rfl | rfl | rfl | rfl | rfl | rfl | rfl <;> rfl
theorem costs_any (w : World) : Calls Try.prog 16 #[] w fun e w' => e = .returned (.slice (some ⟨w.heap.size, 0, none⟩) 7 7) ∧ w' = w.alloc (.cells #[.int .u16 96, .int .u16 1, .int .u16 65535, .int .u16 300, .int .u16 96, .int .u16 65534, .int .u16 10] 32) := by
  go_enter Try.func16, Try.ntmps16
  go_wp2
  go_ret
  exact ⟨rfl, rfl⟩
theorem costs_cost (w : World) : CostAt (w.alloc (.cells #[.int .u16 96, .int .u16 1, .int .u16 65535, .int .u16 300, .int .u16 96, .int .u16 65534, .int .u16 10] 32)) (some ⟨w.heap.size, 0, none⟩) 7 cfL := by
  refine ⟨fun k hk => ⟨w.heap.size, 0, rfl, by simp, ?_⟩, fun k hk => ?_, fun k => ?_⟩
  · rw [Nat.zero_add, cell_of_row _ _ k _ 32 (0, 0) (heap_alloc_new w (.cells #[.int .u16 96, .int .u16 1, .int .u16 65535, .int .u16 300, .int .u16 96, .int .u16 65534, .int .u16 10] 32))]
    have h : k = 0 ∨ k = 1 ∨ k = 2 ∨ k = 3 ∨ k = 4 ∨ k = 5 ∨ k = 6 := by omega
    rcases h with rfl | rfl | rfl | rfl | rfl | rfl | rfl <;> rfl
  · unfold cfL
    rw [List.getD_eq_getElem?_getD, List.getElem?_eq_none (by simp; omega)]
    rfl
  · unfold cfL
    by_cases h7 : k < 7
    · have h : k = 0 ∨ k = 1 ∨ k = 2 ∨ k = 3 ∨ k = 4 ∨ k = 5 ∨ k = 6 := by omega
      rcases h with rfl | rfl | rfl | rfl | rfl | rfl | rfl <;> decide
    · rw [List.getD_eq_getElem?_getD, List.getElem?_eq_none (by simp; omega)]
      decide
theorem lcost_any (w : World) (x : Nat) : Calls Try.prog 19 #[.int .i64 (x : Int)] w fun e w' => e = .returned (.int .u16 (cfL x : Nat)) ∧ Below w.heap.size w w' := by
  have HC := Lib.hid (costs_cost w)
  have HB := Lib.hid ((Below.refl w.heap.size w).alloc (Nat.le_refl _) (.cells #[.int .u16 96, .int .u16 1, .int .u16 65535, .int .u16 300, .int .u16 96, .int .u16 65534, .int .u16 10] 32))
  by_cases hx : x < 7
  · obtain ⟨b, o, e1, hb, hc⟩ := HC.out.at_ x hx
    injection e1 with e1; injection e1 with e1 e2 _
    subst e1 e2
    rw [Nat.zero_add] at hc
    have hx1 : ¬ (7 : Int) ≤ (x : Int) := by omega
    obtain ⟨y, hy⟩ : ∃ y, y = cfL x := ⟨_, rfl⟩
    rw [← hy] at hc ⊢
    clear hy HC
    generalize hW : w.alloc (.cells #[.int .u16 96, .int .u16 1, .int .u16 65535, .int .u16 300, .int .u16 96, .int .u16 65534, .int .u16 10] 32) = W at *
    have HW := Lib.hid hW
    clear hW
    go_enter Try.func19, Try.ntmps19
    go_wp2_with (go_at_call 16; (with_reducible refine (costs_any _).mono ?_); rintro en w3 ⟨rfl, hw3⟩; rw [HW.out] at hw3; subst hw3)
    go_ret
    exact ⟨rfl, HB.out⟩
  · rw [HC.out.out x (by omega)]
    have hx1 : (7 : Int) ≤ (x : Int) := by omega
    clear HC HB hx
    go_enter Try.func19, Try.ntmps19
    go_wp2
    go_ret
    exact ⟨rfl, Below.refl _ _⟩
theorem up_ext : ∀ {l m : List Ro}, l.Pairwise (fun x y => x.pk < y.pk) → m.Pairwise (fun x y => x.pk < y.pk) → (∀ r, r ∈ l ↔ r ∈ m) → l = m
  | [], [], _, _, _ => rfl
  | [], y :: m, _, _, h => absurd ((h y).2 (List.mem_cons_self ..)) (by simp)
  | x :: l, [], _, _, h => absurd ((h x).1 (List.mem_cons_self ..)) (by simp)
  | x :: l, y :: m, hl, hm, h => by
    have hl2 := List.pairwise_cons.1 hl
    have hm2 := List.pairwise_cons.1 hm
    have hxy : x = y := by
      rcases List.mem_cons.1 ((h x).1 (List.mem_cons_self ..)) with e | e
      · exact e
      · rcases List.mem_cons.1 ((h y).2 (List.mem_cons_self ..)) with e2 | e2
        · exact e2.symm
        · have := hm2.1 x e; have := hl2.1 y e2; omega
    subst hxy
    congr 1
    refine up_ext hl2.2 hm2.2 fun r => ⟨fun hr => ?_, fun hr => ?_⟩
    · rcases List.mem_cons.1 ((h r).1 (List.mem_cons_of_mem _ hr)) with e | e
      · subst e; exact absurd (hl2.1 r hr) (Nat.lt_irrefl _)
      · exact e
    · rcases List.mem_cons.1 ((h r).2 (List.mem_cons_of_mem _ hr)) with e | e
      · subst e; exact absurd (hm2.1 r hr) (Nat.lt_irrefl _)
      · exact e
theorem SelOK.ext {cf : Nat → Nat} {f : Mk} {M : List E} {l m : List Ro} (h : SelOK cf f M l) (h' : SelOK cf f M m) : l = m := up_ext h.up h'.up fun r => (h.mem r).trans (h'.mem r).symm
def exL : List E := [⟨167772160, 8, 1, 0, 1, 96, 50⟩, ⟨167772160, 8, 2, 0, 1, 50, 50⟩]
def f0 : Mk := fun _ _ => none
theorem feas0 (e : E) : feasE f0 e = true := by unfold feasE Mk.feas f0; simp
theorem ex_sel : SelOK cfG f0 exL [⟨167772160, 8, 2, 146, 1⟩] := by
  have hr : Rising exL := by unfold Rising exL; decide
  have hL : ∀ e ∈ exL, e.Ok := fun e he => by
    simp only [exL, List.mem_cons, List.not_mem_nil, or_false] at he
    rcases he with rfl | rfl <;> exact ⟨by decide, by decide, by decide, by decide, by decide, by decide, by decide⟩
  have g : Grp exL 0 2 := ⟨by decide, by decide, fun k hk h1 h2 => by
    have : k = 0 ∨ k = 1 := by omega
    rcases this with rfl | rfl <;> exact ⟨rfl, rfl⟩, Or.inl rfl, Or.inl rfl⟩
  have h := (SelOK.nil cfG f0 : SelOK cfG f0 (exL.take 0) []).grp g hr hL
  have e : short cfG f0 ((exL.drop 0).take (2 - 0)) = (146, ⟨167772160, 8, 2, 146, 1⟩) := by
    unfold short exL
    simp only [List.drop_zero, List.take, List.foldl, stp, feas0]
    decide
  rw [e] at h
  exact h
end Go.Proofs.Ytkbhmdoichiinaa.Rts
