/- Contract: Decode. -/
import Derived.Test.YtecfblkagbdjlaaMk
import Derived.Lib.QuietBelow
import Derived.Laws.ResultCell
import Derived.Laws.Cover3
import Derived.Stop.BytesEq
import Derived.BigQuiet
import Derived.Deep.QuietTactic
namespace Go.Proofs.Ytecfblkagbdjlaa.Msg
open Go.ChangeShapes Go.WideShapes Go.ChangeAt Go.RowKit Go.Sort
open Coin (coin sz b8 Rd Row Own CoinOwn put_any sz_le length_coin takeV endV bytesV got got_lt Pur take_any BytesSaid bytes_any)
open Tal (more)
set_option maxRecDepth 8000

/-- What Decode answers: the error, who sent it, the parts, how many of other kinds. -/
def dec (p : List UInt8) : Nat × Nat × List Pt × Nat :=
  if p.length < 6 then (5, 0, [], 0)
  else if tailb (more 0 (p.take (p.length - 4))) ≠ p.drop (p.length - 4) then (4, 0, [], 0)
  else if p.headD 0 ≠ 1 then (4, 0, [], 0)
  else match (if (takeV ((p.take (p.length - 4)).drop 1) 0 15).2.2 ≠ 0 then none else dp (takeV ((p.take (p.length - 4)).drop 1) 0 15).2.1) with
    | none => (4, 0, [], 0)
    | some x => if 300 < x.1.length then (6, 0, [], 0) else (0, (takeV ((p.take (p.length - 4)).drop 1) 0 15).1, x.1, x.2)
def DecSaid (w : World) (r : Nat × Nat × List Pt × Nat) (e : Ending) (w' : World) : Prop :=
  ∃ A c, e = .returned (.tuple #[.agg #[.int .i64 (r.2.1 : Int), .slice A r.2.2.1.length c], .int .i64 (r.2.2.2 : Int), .int .i64 (r.1 : Int)]) ∧ PSl w' A r.2.2.1 ∧ Below w.heap.size w w'
theorem dec_no {w w' : World} {x : Nat} {e : Ending} (he : e = .returned (.tuple #[.agg #[.int .i64 0, .slice none 0 0], .int .i64 0, .int .i64 (x : Int)])) (hb : Below w.heap.size w w') : DecSaid w (x, 0, [], 0) e w' :=
  ⟨none, 0, he, fun k hk => (by simp at hk), hb⟩
theorem size34 : (Try.prog.info? 34).map (·.size) = some 2 := by kernel_rfl
theorem isrow34 : (match (Try.prog.underlying 34) with | some (.struct _) | some (.array _ _) => true | _ => false) = true := by kernel_rfl
theorem results_cell_tmp2 {fn : Func} {p u v : Tmp} {ty : TypeId} (h : fn.results = #[.cell p ty, .tmp u, .tmp v]) (tmps : Array Value) (P : Program) (w : World) :
    (results fn tmps).run P w =
      ((asAddr (tmps.getD p undef)).run P w).andThen fun a w₁ => ((loadVar ty a).run P w₁).andThen fun x w₂ => .ok (.tuple #[x, tmps.getD u undef, tmps.getD v undef]) w₂ := by
  simp only [results, h]
  simp [Sem.run_bind, Result.andThen]
theorem res34 {fn : Func} {p u v : Tmp} (h : fn.results = #[.cell p 34, .tmp u, .tmp v]) (tmps : Array Value) (w : World) (g : Nat) (t : TypeId) (cs : Array Value) (fr : Nat × Nat)
    (hp : tmps.getD p undef = .pointer (some ⟨g, 0, none⟩)) (hg : w.heap[g]? = some (.cells cs t fr)) (h4 : cs.size = 2) :
    (results fn tmps).run Try.prog w = .ok (.tuple #[.agg cs, tmps.getD u undef, tmps.getD v undef]) w := by
  obtain ⟨d, hu, hd⟩ : ∃ d, Try.prog.underlying 34 = some d ∧ (match d with | .struct _ | .array _ _ => true | _ => false) = true := by
    have h := isrow34
    cases e : Try.prog.underlying 34 with
    | none => rw [e] at h; cases h
    | some d => rw [e] at h; exact ⟨d, rfl, by cases d <;> first | rfl | cases h⟩
  rw [results_cell_tmp2 h, hp]
  simp [asAddr, Result.andThen, run_loadVar_row w g t 34 cs fr d hg hu (by cases d <;> first | rfl | cases hd) (by rw [size34, h4])]
/-- A whole packet stored. -/
theorem put34 {ops : Array Oper} {rest : List Oper} {o : Oper} {a : Act} {w : World} {Q : Exit → Act → World → Prop} (hgd : o.guard = none) (x y : Operand) (ho : o.op = .store 34 x y)
    (g : Nat) (hx : a.eval x = .pointer (some ⟨g, 0, none⟩)) {x0 x1 : Value} (hg : w.heap[g]? = some (.cells #[x0, x1] 34))
    {A : Option Addr} {n c : Nat} {k : Int} (hy : a.eval y = .agg #[.int .i64 k, .slice A n c])
    (h : ∀ w', w'.heap[g]? = some (.cells #[.int .i64 k, .slice A n c] 34) → w.grownBy w' (some g) → wpList Try.prog ops Q rest (a.put o.dst undef) w') :
    wpList Try.prog ops Q (o :: rest) a w := by
  refine wpList_store_row hgd 34 x y ho g _ hx hy 34 _ hg size34 rfl (by simp [Value.oneCell']) ?_
  refine h _ (setRow_heap w g _ _ 34 _ hg) ⟨rfl, rfl, rfl, by simp, fun k _ hne => setRow_other w g k _ (fun e => hne (by rw [e]))⟩
theorem sizeOf5 (w : World) : (sizeOf 5).run Try.prog w = .ok 1 w := by kernel_rfl
theorem dec_short (w : World) (A : Option Addr) (m cap : Nat) (hm : m < 6) : Calls Try.prog 16 #[.slice A m cap] w (DecSaid w (5, 0, [], 0)) := by
  have B1 : Below w.heap.size w (w.alloc (.cells #[.int .i64 0, .slice none 0 0] 34)) := (Below.refl _ _).alloc (Nat.le_refl _) _
  have E1 : (w.alloc (.cells #[.int .i64 0, .slice none 0 0] 34)).heap[w.heap.size]? = some (.cells #[.int .i64 0, .slice none 0 0] 34) := heap_alloc_new w _
  go_enter Try.func16, Try.ntmps16
  go_wp2_with (with_reducible refine put34 rfl (.tmp 2) (.tmp 15) rfl w.heap.size rfl E1 rfl ?_; intro w2 E2 G2)
  (try simp only [Exit.inBlock, Exit.then])
  exact bodyPost_ret (res34 rfl _ _ w.heap.size 34 _ (0, 0) rfl E2 rfl) rfl (dec_no rfl (B1.grown G2 B1.size (fun k h => by cases h; exact Nat.le_refl _)))
/-- Its answer, where its sum is right. -/
def decR (a : Nat) : Option (List Pt × Nat) → Nat × Nat × List Pt × Nat
  | none => (4, 0, [], 0)
  | some x => if 300 < x.1.length then (6, 0, [], 0) else (0, a, x.1, x.2)
theorem psl_off {w w' : World} {A : Option Addr} {l : List Pt} {g : Nat} {k : Int} {C : Option Addr} {n c : Nat} (h : PSl w A l) (hg : w.heap[g]? = some (.cells #[.int .i64 k, .slice C n c] 34 (0, 0))) (G : w.grownBy w' (some g)) : PSl w' A l := fun j hj => by
  obtain ⟨b, o, e, h1, h2⟩ := h j hj
  refine ⟨b, o, e, Nat.lt_of_lt_of_le h1 G.size, h2.keep (G.block b h1 fun e2 => ?_)⟩
  injection e2 with e2
  subst e2
  have h3 := h2.1
  rw [cell_of_row w b (o + j * 7) _ 34 (0, 0) hg] at h3
  generalize o + j * 7 = t at h3
  rcases t with _ | _ | t
  · simp at h3
  · simp at h3
  · simp at h3
set_option maxHeartbeats 2000000 in
theorem dec_any (A : Option Addr) (m cap : Nat) (l : List UInt8) (w : World) (hm : m = l.length) (hl : m ≤ 90000) (hr : Rd w w.heap.size A l) (hc : m ≤ cap) (hA : A = none → cap = 0) :
    Calls Try.prog 16 #[.slice A m cap] w (DecSaid w (dec l)) := by
  by_cases h6 : m < 6
  · have e : dec l = (5, 0, [], 0) := by unfold dec; rw [if_pos (by omega)]
    rw [e]
    exact dec_short w A m cap h6
  · obtain ⟨ad, hAd⟩ : ∃ ad, A = some ad := by
      rcases A with _ | ad
      · have := hA rfl; omega
      · exact ⟨ad, rfl⟩
    subst hAd
    obtain ⟨Z, hZ⟩ : ∃ Z, Z + 4 = m := ⟨m - 4, by omega⟩
    have hz : (m : Int) - 4 = (Z : Int) := by omega
    have hzl : l.length - 4 = Z := by omega
    obtain ⟨V, hV⟩ : ∃ V, V = l.take Z := ⟨_, rfl⟩
    have hVl : V.length = Z := by rw [hV, List.length_take]; omega
    have hdec : dec l = if tailb (more 0 V) ≠ l.drop Z then (4, 0, [], 0) else if l.headD 0 ≠ 1 then (4, 0, [], 0) else decR (takeV (V.drop 1) 0 15).1 (if (takeV (V.drop 1) 0 15).2.2 ≠ 0 then none else dp (takeV (V.drop 1) 0 15).2.1) := by
      unfold dec decR
      rw [if_neg (by omega), hzl, ← hV]
    have B1 : Below w.heap.size w (w.alloc (.cells #[.int .i64 0, .slice none 0 0] 34)) := (Below.refl _ _).alloc (Nat.le_refl _) _
    have E1 : (w.alloc (.cells #[.int .i64 0, .slice none 0 0] 34)).heap[w.heap.size]? = some (.cells #[.int .i64 0, .slice none 0 0] 34) := heap_alloc_new w _
    have S1 : (w.alloc (.cells #[.int .i64 0, .slice none 0 0] 34)).heap.size = w.heap.size + 1 := by simp
    have R1 : Rd (w.alloc (.cells #[.int .i64 0, .slice none 0 0] 34)) w.heap.size (some ad) l := hr.below B1 (Nat.le_refl _)
    have hup := Coin.upto_any (A := some ad) m cap Z (fun h => by cases h) hc (by omega)
    have hbt := fun W => Coin.slice_from (some ad) m cap Z (by omega) W
    have hcz : cap ≠ Z := by omega
    simp only [if_neg hcz, Option.map_some, show m - Z = 4 by omega] at hbt
    have cq : ∀ w2, Rd w2 w.heap.size (some ad) l → w.heap.size ≤ w2.heap.size → Calls Try.prog 22 #[.slice (some ad) Z cap] w2 (SumSaid w2 V) := fun w2 h h2 => by
      have h3 := h.take Z
      rw [← hV] at h3
      have := sumof_any (some ad) cap V w2 (by rw [hVl]; omega) (h3.more (by omega))
      rw [hVl] at this; exact this
    have h4l : (l.drop Z).length = 4 := by rw [List.length_drop]; omega
    obtain ⟨b0, b1, b2, b3, h4⟩ : ∃ b0 b1 b2 b3, l.drop Z = [b0, b1, b2, b3] := by
      match hh : l.drop Z, h4l with
      | [b0, b1, b2, b3], _ => exact ⟨b0, b1, b2, b3, rfl⟩
    have hc4 : ∀ w2, Rd w2 w.heap.size (some ad) l → ∃ X, ad.add Z = X ∧ w2.cell? X = some (b8 b0) ∧ w2.cell? ⟨X.block, X.off + 1, none⟩ = some (b8 b1) ∧ w2.cell? ⟨X.block, X.off + 2, none⟩ = some (b8 b2) ∧ w2.cell? ⟨X.block, X.off + 3, none⟩ = some (b8 b3) := fun w2 h => by
      have h3 := h.cut Z
      rw [h4] at h3
      obtain ⟨ad', e, _, hcell⟩ := h3 (by simp)
      simp only [Option.map_some, Option.some.injEq] at e
      subst e
      have c0 := hcell 0 (by simp)
      have c1 := hcell 1 (by simp)
      have c2 := hcell 2 (by simp)
      have c3 := hcell 3 (by simp)
      exact ⟨_, rfl, c0, c1, c2, c3⟩
    rw [h4] at hdec
    have HD := Lib.hid (And.intro hdec (And.intro hV (And.intro hm (And.intro h4 (And.intro hZ hVl)))))
    generalize dec l = res at *
    clear hdec hV hm h4 h4l hzl hZ hVl
    go_enter Try.func16, Try.ntmps16
    go_upto_region 3 with (fail)
    go_quiet (fail)
    go_upto_region 4 with (fail)
    have E3 : ((w.alloc (.cells #[.int .i64 0, .slice none 0 0] 34)).drewN nq).heap[w.heap.size]? = some (.cells #[.int .i64 0, .slice none 0 0] 34) := E1
    have B3 : Below w.heap.size w ((w.alloc (.cells #[.int .i64 0, .slice none 0 0] 34)).drewN nq) := B1.trans ⟨rfl, rfl, rfl, Nat.le_refl _, fun _ _ => rfl⟩
    have R3 : Rd ((w.alloc (.cells #[.int .i64 0, .slice none 0 0] 34)).drewN nq) w.heap.size (some ad) l := R1.keep fun _ _ => rfl
    have S3 : ((w.alloc (.cells #[.int .i64 0, .slice none 0 0] 34)).drewN nq).heap.size = w.heap.size + 1 := S1
    clear E1 B1 R1 S1
    generalize (w.alloc (.cells #[.int .i64 0, .slice none 0 0] 34)).drewN nq = w3 at *
    obtain ⟨X, hX, d0, d1, d2, d3⟩ := hc4 w3 R3
    rw [hX]
    have HX := Lib.hid hX
    have hat : ∀ w, (Instr.arrayAt 54 (.slice (some X) 4 (cap - Z))).run Try.prog w = .ok (.pointer (some X)) w := fun w => run_arrayAt w 54 _ 4 _ 4 (cap - Z) under4 (Nat.le_refl _)
    obtain ⟨u0, u1, u2, u3, hu, hU⟩ : ∃ u0 u1 u2 u3 : UInt8, tailb (more 0 V) = [u0, u1, u2, u3] ∧ ∀ w2, Rd w2 w.heap.size (some ad) l → w.heap.size ≤ w2.heap.size → Calls Try.prog 22 #[.slice (some ad) Z cap] w2 fun e w' => e = .returned (.agg #[b8 u0, b8 u1, b8 u2, b8 u3]) ∧ Below w2.heap.size w2 w' := ⟨_, _, _, _, rfl, cq⟩
    have hb8 : ∀ b : UInt8, b8 b = .int .u8 (b.toNat : Int) := fun _ => rfl
    obtain ⟨v0, hv0⟩ : ∃ v0, v0 = l.headD 0 := ⟨_, rfl⟩
    have d4 : w3.cell? (ad.add 0) = some (b8 v0) := by
      obtain ⟨ad', e, _, hcell⟩ := R3 (by have := HD.out.2.2.1; omega)
      simp only [Option.some.injEq] at e
      subst e
      have hl0 : 0 < l.length := by have := HD.out.2.2.1; omega
      have h0 : l[0]'hl0 = v0 := by
        rcases l with _ | ⟨x, l⟩
        · simp at hl0
        · exact hv0.symm
      rw [hcell 0 hl0, h0]
    have d5 : w3.cell? ad = some (b8 v0) := by
      have e : ad.add 0 = ad := by unfold Addr.add; rw [if_pos rfl]
      rwa [e] at d4
    simp only [hb8] at d0 d1 d2 d3 d4 d5 hU
    have HU := Lib.hid (And.intro hu hv0)
    obtain ⟨y, hy⟩ : ∃ y : Bool, y = ([u0, u1, u2, u3] == [b0, b1, b2, b3]) := ⟨_, rfl⟩
    have heq : ∀ w, (Op.equalIn 10000 54 (.agg #[.int .u8 (u0.toNat : Int), .int .u8 (u1.toNat : Int), .int .u8 (u2.toNat : Int), .int .u8 (u3.toNat : Int)]) (.agg #[.int .u8 (b0.toNat : Int), .int .u8 (b1.toNat : Int), .int .u8 (b2.toNat : Int), .int .u8 (b3.toNat : Int)])).run Try.prog w = .ok y w := fun w => by
      rw [hy]; exact run_equalIn_bytes w 9998 54 5 4 under4 Try.underlying5 (fun w => sizeOf5 w) [u0, u1, u2, u3] [b0, b1, b2, b3] rfl rfl
    have HYY := Lib.hid hy
    generalize (u0.toNat : Int) = i0 at *
    generalize (u1.toNat : Int) = i1 at *
    generalize (u2.toNat : Int) = i2 at *
    generalize (u3.toNat : Int) = i3 at *
    generalize (b0.toNat : Int) = j0 at *
    generalize (b1.toNat : Int) = j1 at *
    generalize (b2.toNat : Int) = j2 at *
    generalize (b3.toNat : Int) = j3 at *
    obtain ⟨vi, hvi⟩ : ∃ vi : Int, vi = (v0.toNat : Int) := ⟨_, rfl⟩
    rw [← hvi] at d4 d5
    have HV := Lib.hid hvi
    have e0 := fun d os => cell_regrown d0 d os
    have e1 := fun d os => cell_regrown d1 d os
    have e2 := fun d os => cell_regrown d2 d os
    have e3 := fun d os => cell_regrown d3 d os
    have e4 := fun d os => cell_regrown d4 d os
    have e5 := fun d os => cell_regrown d5 d os
    have cQ : ∀ d os, Calls Try.prog 22 #[.slice (some ad) Z cap] (grow (redrawn w3 d) os) fun e w'' => e = .returned (.agg #[.int .u8 i0, .int .u8 i1, .int .u8 i2, .int .u8 i3]) ∧ ∃ p : Regrown, w'' = grow (redrawn w3 p.d) p.os := fun d os => Calls.regrown_of (hU _ (R3.below (below_regrown w3 d os) (by omega)) (Nat.le_trans (by omega) (below_regrown w3 d os).size))
    clear hX hc4 cq hU hu hy d0 d1 d2 d3 d4 d5 hup hbt hvi hv0
    have hZ0 : 0 < Z := by have := HD.out.2.2.2.2.1; omega
    cases y with
    | false =>
      refine wp_region_quiet_below (by kernel_rfl) (by kernel_rfl) ?_
      repeat (quiet_step (with_reducible exact cQ _ _))
      refine wpQuiet_nil ?_
      intro _ hw'
      obtain ⟨⟨dq, osq⟩, hw''⟩ := hw'
      subst hw''
      have bq := below_regrown w3 dq osq
      have B4 : Below w.heap.size w (grow (redrawn w3 dq) osq) := B3.trans (bq.mono (by omega))
      have E4 : (grow (redrawn w3 dq) osq).heap[w.heap.size]? = some (.cells #[.int .i64 0, .slice none 0 0] 34) := (bq.block _ (by omega)).trans E3
      have R4 : Rd (grow (redrawn w3 dq) osq) w.heap.size (some ad) l := R3.below bq (by omega)
      have S4 : w.heap.size + 1 ≤ (grow (redrawn w3 dq) osq).heap.size := by rw [← S3]; exact bq.size
      generalize grow (redrawn w3 dq) osq = w4 at *
      clear e0 e1 e2 e3 e4 e5 cQ heq hat bq E3 B3 R3 S3
      have hres : res = (4, 0, [], 0) := by rw [HD.out.1, if_pos (by rw [HU.out.1]; intro h; have := HYY.out; simp [h] at this)]
      subst hres
      go_wp2_with (with_reducible refine put34 rfl (.tmp 2) (.tmp 38) rfl w.heap.size rfl E4 rfl ?_; intro w5 E5 G5)
      (try simp only [Exit.inBlock, Exit.then])
      exact bodyPost_ret (res34 rfl _ _ w.heap.size 34 _ (0, 0) rfl E5 rfl) rfl (dec_no rfl (B4.grown G5 B4.size (fun k h => by cases h; exact Nat.le_refl _)))
    | true =>
      have hsum : ¬ [u0, u1, u2, u3] ≠ [b0, b1, b2, b3] := fun h => h (eq_of_beq HYY.out.symm)
      have HS := Lib.hid hsum
      clear hsum
      by_cases hv1 : vi = 1
      · subst hv1
        refine wp_region_quiet_below (by kernel_rfl) (by kernel_rfl) ?_
        repeat (quiet_step (with_reducible exact cQ _ _))
        refine wpQuiet_nil ?_
        intro _ hw'
        obtain ⟨⟨dq, osq⟩, hw''⟩ := hw'
        subst hw''
        have bq := below_regrown w3 dq osq
        have B4 : Below w.heap.size w (grow (redrawn w3 dq) osq) := B3.trans (bq.mono (by omega))
        have E4 : (grow (redrawn w3 dq) osq).heap[w.heap.size]? = some (.cells #[.int .i64 0, .slice none 0 0] 34) := (bq.block _ (by omega)).trans E3
        have R4 : Rd (grow (redrawn w3 dq) osq) w.heap.size (some ad) l := R3.below bq (by omega)
        have S4 : w.heap.size + 1 ≤ (grow (redrawn w3 dq) osq).heap.size := by rw [← S3]; exact bq.size
        generalize grow (redrawn w3 dq) osq = w4 at *
        clear e0 e1 e2 e3 e4 e5 cQ heq hat bq E3 B3 R3 S3
        have hh : ¬ l.headD 0 ≠ 1 := fun h => h (by rw [← HU.out.2]; have h2 := HV.out; exact UInt8.toNat.inj (by show v0.toNat = 1; omega))
        have hres : res = decR (takeV (V.drop 1) 0 15).1 (if (takeV (V.drop 1) 0 15).2.2 ≠ 0 then none else dp (takeV (V.drop 1) 0 15).2.1) := by
          have h1 := HD.out.1
          rw [HU.out.1, if_neg HS.out, if_neg hh] at h1
          exact h1
        have RV : Rd w4 w.heap.size (some ad) V := by rw [HD.out.2.1]; exact R4.take Z
        obtain ⟨A2, hs2, R6, hA2⟩ := Coin.cut_any RV Z cap 1 HD.out.2.2.2.2.2.symm (by have := HD.out.2.2.2.2.1; omega) (fun h => by cases h) (by have := HD.out.2.2.2.2.1; omega)
        have hs2 : ∀ W, (Instr.slice 30 (.slice (some ad) Z cap) (some (.int .i64 1)) none none).run Try.prog W = .ok (.slice A2 (Z - 1) (cap - 1)) W := hs2
        have hZ1 : (1 : Int) ≤ (Z : Int) := by have := HD.out.2.2.2.2.1; omega
        obtain ⟨Y, hY⟩ : ∃ Y, Y = V.drop 1 := ⟨_, rfl⟩
        rw [← hY] at R6 hres
        have hYl : Y.length = Z - 1 := by rw [hY, List.length_drop, HD.out.2.2.2.2.2]
        have hnew := Coin.new_any A2 (cap - 1) Y w4 (by omega) (R6.more B4.size)
        rw [hYl] at hnew
        obtain ⟨a, l1, f1, ea, ba, ka, ga⟩ := tk_next Y 0 15 (by decide)
        rw [ea] at hres
        simp only at hres
        have cN := fun q => nod' (q := q) ea (by decide)
        have hZm : Z ≤ m := by have := HD.out.2.2.2.2.1; omega
        have cP := fun W q (h : Pur W q l1 f1) => parts_any W q l1 f1 h ka (by omega) _ rfl
        generalize (if f1 ≠ 0 then none else dp l1) = R at *
        have HN := Lib.hid (And.intro hnew (And.intro cN (And.intro cP hres)))
        clear hnew cN cP hres hh RV R6 hA2 hY hYl ea ga
        go_upto_region 8 with (first
          | (go_at_call 28; (with_reducible refine HN.out.1.mono ?_); (rintro e w5 ⟨q, rfl, P5, hq1, hq2, B5⟩; have HP := Lib.hid (And.intro P5 (And.intro hq1 (And.intro B5 ((B5.block _ (by omega)).trans E4)))); clear P5 hq1 hq2 B5))
          | (go_at_call 29; (with_reducible refine (HN.out.2.1 q _ HP.out.1).mono ?_); (rintro e w6 ⟨rfl, P6, G6⟩; have HQ := Lib.hid (And.intro P6 (And.intro (HP.out.2.2.1.grown G6 HP.out.2.2.1.size (fun k h => by cases h; exact HP.out.2.1)) ((G6.block _ (by have := HP.out.2.2.1.size; omega) (by intro h; injection h with h; have := HP.out.2.1; omega)).trans HP.out.2.2.2))); clear P6 G6)))
        have c30 := HN.out.2.2.1 _ q HQ.out.1
        have hres := HN.out.2.2.2
        have hq4 := HP.out.2.1
        have B64 := HQ.out.2.1
        have E6 := HQ.out.2.2
        clear HN HP HQ
        cases R with
        | none =>
          have c30 : Calls Try.prog 30 #[.pointer (some ⟨q, 0, none⟩)] w6 fun e w' => ∃ x : Nat, x ≠ 0 ∧ x ≤ 12 ∧ e = .returned (.tuple #[.slice none 0 0, .int .i64 0, .int .i64 (x : Int)]) ∧ w6.grownBy w' (some q) := c30
          have HC := Lib.hid (And.intro c30 (And.intro B64 E6))
          clear c30 B64 E6
          subst hres
          go_wp2_with (first
            | (go_at_call 30; (with_reducible refine HC.out.1.mono ?_); (rintro e w7 ⟨x, hx0, -, rfl, G7⟩; have hbn : (((x : Nat) : Int) != 0) = true := (by simp; omega); have hbe : (((x : Nat) : Int) == 0) = false := (by simp; omega); have E7 := (G7.block w.heap.size (Nat.lt_of_lt_of_le (by omega) HC.out.2.1.size) (by intro h; injection h with h; omega)).trans HC.out.2.2; have HB7 := Lib.hid (B4.trans ((HC.out.2.1.grown G7 HC.out.2.1.size (fun k h => by cases h; exact hq4)).mono B4.size)); clear G7 hx0))
            | (with_reducible refine put34 rfl (.tmp 2) (.tmp 52) rfl w.heap.size rfl E7 rfl ?_; intro w8 E8 G8))
          (try simp only [Exit.inBlock, Exit.then])
          exact bodyPost_ret (res34 rfl _ _ w.heap.size 34 _ (0, 0) rfl E8 rfl) rfl (dec_no rfl (HB7.out.grown G8 HB7.out.size (fun k h => by cases h; exact Nat.le_refl _)))
        | some t =>
          obtain ⟨xs, u⟩ := t
          obtain ⟨n, hn⟩ : ∃ n, n = xs.length := ⟨_, rfl⟩
          have c30 : Calls Try.prog 30 #[.pointer (some ⟨q, 0, none⟩)] w6 fun e w' => ∃ A c, e = .returned (.tuple #[.slice A xs.length c, .int .i64 (u : Int), .int .i64 0]) ∧ PSl w' A xs ∧ xs.length ≤ 100000 ∧ w6.grownBy w' (some q) := c30
          rw [← hn] at c30
          have hres : res = if 300 < n then (6, 0, [], 0) else (0, a, xs, u) := by rw [hres, hn]; rfl
          have HC := Lib.hid (And.intro c30 (And.intro B64 (And.intro E6 hn)))
          clear c30 B64 E6 hn
          by_cases h300 : 300 < n
          · rw [if_pos h300] at hres
            subst hres
            go_wp2_with (first
              | (go_at_call 30; (with_reducible refine HC.out.1.mono ?_); (rintro e w7 ⟨A7, c7, rfl, -, h7, G7⟩; have E7 := (G7.block w.heap.size (Nat.lt_of_lt_of_le (by omega) HC.out.2.1.size) (by intro h; injection h with h; omega)).trans HC.out.2.2.1; have HB7 := Lib.hid (B4.trans ((HC.out.2.1.grown G7 HC.out.2.1.size (fun k h => by cases h; exact hq4)).mono B4.size)); clear G7))
              | (with_reducible refine put34 rfl (.tmp 2) (.tmp 56) rfl w.heap.size rfl E7 rfl ?_; intro w8 E8 G8))
            (try simp only [Exit.inBlock, Exit.then])
            exact bodyPost_ret (res34 rfl _ _ w.heap.size 34 _ (0, 0) rfl E8 rfl) rfl (dec_no rfl (HB7.out.grown G8 HB7.out.size (fun k h => by cases h; exact Nat.le_refl _)))
          · rw [if_neg h300] at hres
            subst hres
            go_wp2_with (first
              | (go_at_call 30; (with_reducible refine HC.out.1.mono ?_); (rintro e w7 ⟨A7, c7, rfl, S7, h7, G7⟩; have E7 := (G7.block w.heap.size (Nat.lt_of_lt_of_le (by omega) HC.out.2.1.size) (by intro h; injection h with h; omega)).trans HC.out.2.2.1; have HB7 := Lib.hid (And.intro (B4.trans ((HC.out.2.1.grown G7 HC.out.2.1.size (fun k h => by cases h; exact hq4)).mono B4.size)) S7); clear G7 S7))
              | (with_reducible refine put34 rfl (.tmp 2) (.tmp 59) rfl w.heap.size rfl E7 rfl ?_; intro w8 E8 G8))
            (try simp only [Exit.inBlock, Exit.then])
            refine bodyPost_ret (res34 rfl _ _ w.heap.size 34 _ (0, 0) rfl E8 rfl) rfl ⟨A7, c7, by have := HC.out.2.2.2; subst this; rfl, ?_, HB7.out.1.grown G8 HB7.out.1.size (fun k h => by cases h; exact Nat.le_refl _)⟩
            exact psl_off HB7.out.2 E7 G8
      · have hvb : ((vi : Int) != 1) = true := by simp; omega
        have hve : ((vi : Int) == 1) = false := by simp; omega
        refine wp_region_quiet_below (by kernel_rfl) (by kernel_rfl) ?_
        repeat (quiet_step (with_reducible exact cQ _ _))
        refine wpQuiet_nil ?_
        intro _ hw'
        obtain ⟨⟨dq, osq⟩, hw''⟩ := hw'
        subst hw''
        have bq := below_regrown w3 dq osq
        have B4 : Below w.heap.size w (grow (redrawn w3 dq) osq) := B3.trans (bq.mono (by omega))
        have E4 : (grow (redrawn w3 dq) osq).heap[w.heap.size]? = some (.cells #[.int .i64 0, .slice none 0 0] 34) := (bq.block _ (by omega)).trans E3
        have R4 : Rd (grow (redrawn w3 dq) osq) w.heap.size (some ad) l := R3.below bq (by omega)
        have S4 : w.heap.size + 1 ≤ (grow (redrawn w3 dq) osq).heap.size := by rw [← S3]; exact bq.size
        generalize grow (redrawn w3 dq) osq = w4 at *
        clear e0 e1 e2 e3 e4 e5 cQ heq hat bq E3 B3 R3 S3
        have hres : res = (4, 0, [], 0) := by
          have h1 := HD.out.1
          rw [HU.out.1, if_neg HS.out, if_pos (by rw [← HU.out.2]; intro h; apply hv1; rw [HV.out, h]; rfl)] at h1
          exact h1
        subst hres
        go_wp2_with (with_reducible refine put34 rfl (.tmp 2) (.tmp 38) rfl w.heap.size rfl E4 rfl ?_; intro w5 E5 G5)
        (try simp only [Exit.inBlock, Exit.then])
        exact bodyPost_ret (res34 rfl _ _ w.heap.size 34 _ (0, 0) rfl E5 rfl) rfl (dec_no rfl (B4.grown G5 B4.size (fun k h => by cases h; exact Nat.le_refl _)))
end Go.Proofs.Ytecfblkagbdjlaa.Msg
