/- What frame.One answers. -/
import Derived.Test.YtjhkgdgbmmpegaaFPk
import Derived.Test.YtjhkgdgbmmpegaaPrs
import Derived.Lib.QuietBelow
import Derived.Laws.ResultCell
import Derived.Laws.Cover3
import Derived.Stop.BytesEq
namespace Go.Proofs.Ytjhkgdgbmmpegaa.Frm
open Go.ChangeShapes Go.WideShapes Go.ChangeAt Go.RowKit Go.Sort
open Coin (b8 Rd Row Own sz coin got)
open Tal (more)

def noItem : Value := .agg #[.int .u8 0, .slice none 0 0, .int .i64 0, .int .i64 0]
def itemV (k : UInt8) (g n a b : Nat) : Value := .agg #[.int .u8 (k.toNat : Int), .slice (some ⟨g, 0, none⟩) n n, .int .i64 (a : Int), .int .i64 (b : Int)]
/-- What is told of the bytes r that begin at a place. -/
def OneSaid (w : World) (r : List UInt8) (a : Nat) (e : Ending) (w' : World) : Prop :=
  (err r ≠ 0 → e = .returned (.tuple #[noItem, .int .i64 (err r : Nat)])) ∧
  (err r = 0 → ∃ g, e = .returned (.tuple #[itemV (kind r) g (cnt r) a (a + size r), .int .i64 0]) ∧ Row w' g (body r) ∧ w.heap.size ≤ g) ∧ Below w.heap.size w w'
theorem one_no {w w' : World} {r : List UInt8} {a x : Nat} {e : Ending} (hx : err r = x) (h0 : x ≠ 0) (he : e = .returned (.tuple #[noItem, .int .i64 (x : Nat)])) (hb : Below w.heap.size w w') : OneSaid w r a e w' :=
  ⟨fun _ => by rw [hx]; exact he, fun h => absurd (hx.symm.trans h) h0, hb⟩
theorem size26 : (Try.prog.info? 26).map (·.size) = some 4 := by kernel_rfl
theorem isrow26 : (match (Try.prog.underlying 26) with | some (.struct _) | some (.array _ _) => true | _ => false) = true := by kernel_rfl
theorem res26 {fn : Func} {p u : Tmp} (h : fn.results = #[.cell p 26, .tmp u]) (tmps : Array Value) (w : World) (g : Nat) (t : TypeId) (cs : Array Value) (fr : Nat × Nat)
    (hp : tmps.getD p undef = .pointer (some ⟨g, 0, none⟩)) (hg : w.heap[g]? = some (.cells cs t fr)) (h4 : cs.size = 4) :
    (results fn tmps).run Try.prog w = .ok (.tuple #[.agg cs, tmps.getD u undef]) w := by
  obtain ⟨d, hu, hd⟩ : ∃ d, Try.prog.underlying 26 = some d ∧ (match d with | .struct _ | .array _ _ => true | _ => false) = true := by
    have h := isrow26
    cases e : Try.prog.underlying 26 with
    | none => rw [e] at h; cases h
    | some d => rw [e] at h; exact ⟨d, rfl, by cases d <;> first | rfl | cases h⟩
  rw [results_cell_tmp h, hp]
  simp [asAddr, Result.andThen, run_loadVar_row w g t 26 cs fr d hg hu (by cases d <;> first | rfl | cases hd) (by rw [size26, h4])]
/-- A whole item stored. -/
theorem put26 {ops : Array Oper} {rest : List Oper} {o : Oper} {a : Act} {w : World} {Q : Exit → Act → World → Prop} (hgd : o.guard = none) (x y : Operand) (ho : o.op = .store 26 x y)
    (g : Nat) (hx : a.eval x = .pointer (some ⟨g, 0, none⟩)) {x0 x1 x2 x3 : Value} (hg : w.heap[g]? = some (.cells #[x0, x1, x2, x3] 26))
    {A : Option Addr} {n c : Nat} {k i j : Int} (hy : a.eval y = .agg #[.int .u8 k, .slice A n c, .int .i64 i, .int .i64 j])
    (h : ∀ w', w'.heap[g]? = some (.cells #[.int .u8 k, .slice A n c, .int .i64 i, .int .i64 j] 26) → w.grownBy w' (some g) → wpList Try.prog ops Q rest (a.put o.dst undef) w') :
    wpList Try.prog ops Q (o :: rest) a w := by
  refine wpList_store_row hgd 26 x y ho g _ hx hy 26 _ hg size26 rfl (by simp [Value.oneCell']) ?_
  refine h _ (setRow_heap w g _ _ 26 _ hg) ⟨rfl, rfl, rfl, by simp, fun k _ hne => setRow_other w g k _ (fun e => hne (by rw [e]))⟩
theorem Calls.mono' {P : Program} {f : FuncId} {args : Array Value} {w : World} {Q Q' : Ending → World → Prop} (h : Calls P f args w Q) (k : ∀ e w', Q e w' → Q' e w') : Calls P f args w Q' := h.mono k
theorem sizeOf5 (w : World) : (sizeOf 5).run Try.prog w = .ok 1 w := by kernel_rfl
theorem between_any (ad : Addr) (m c k h : Nat) (h1 : k ≤ h) (h2 : h ≤ c) (h3 : k < c) (W : World) :
    (Instr.slice 22 (.slice (some ad) m c) (some (.int .i64 (k : Int))) (some (.int .i64 (h : Int))) none).run Try.prog W = .ok (.slice (some (ad.add k)) (h - k) (c - k)) W := by
  have h := run_slice_lh (P := Try.prog) (w := W) 22 (some ad) m c Try.underlying22 .i64 .i64 (k : Int) (h : Int) (by omega) (by omega) (by omega)
  rw [h]
  have : c ≠ k := by omega
  simp [go_sem, sliced, this]

/-- There is no such place. -/
theorem one_arg (A : Option Addr) (cap n : Nat) (i : Int) (w : World) (hn : n ≤ 1000000) (h1 : -9223372036854775808 ≤ i) (h2 : i ≤ 9223372036854775807) (h : i < 0 ∨ (n : Int) < i) :
    Calls Try.prog 9 #[.slice A n cap, .int .i64 i] w fun e w' => e = .returned (.tuple #[noItem, .int .i64 1]) ∧ Below w.heap.size w w' := by
  have B1 : Below w.heap.size w (w.alloc (.cells #[.int .u8 0, .slice none 0 0, .int .i64 0, .int .i64 0] 26)) := (Below.refl _ _).alloc (Nat.le_refl _) _
  have E1 : (w.alloc (.cells #[.int .u8 0, .slice none 0 0, .int .i64 0, .int .i64 0] 26)).heap[w.heap.size]? = some (.cells #[.int .u8 0, .slice none 0 0, .int .i64 0, .int .i64 0] 26) := heap_alloc_new w _
  rcases h with h | h
  · go_enter Try.func9, Try.ntmps9
    go_wp2_with (with_reducible refine put26 rfl (.tmp 4) (.tmp 22) rfl w.heap.size rfl E1 rfl ?_; intro w2 E2 G2)
    (try simp only [Exit.inBlock, Exit.then])
    exact bodyPost_ret (res26 rfl _ _ w.heap.size 26 _ (0, 0) rfl E2 rfl) rfl ⟨rfl, B1.grown G2 B1.size (fun k h => by cases h; exact Nat.le_refl _)⟩
  · have h' : ¬ i < 0 := by omega
    go_enter Try.func9, Try.ntmps9
    go_wp2_with (with_reducible refine put26 rfl (.tmp 4) (.tmp 22) rfl w.heap.size rfl E1 rfl ?_; intro w2 E2 G2)
    (try simp only [Exit.inBlock, Exit.then])
    exact bodyPost_ret (res26 rfl _ _ w.heap.size 26 _ (0, 0) rfl E2 rfl) rfl ⟨rfl, B1.grown G2 B1.size (fun k h => by cases h; exact Nat.le_refl _)⟩

/-- What is told of the place a. -/
theorem one_any (A : Option Addr) (cap B a : Nat) (l : List UInt8) (w : World) (hl : l.length ≤ 900000) (hc : l.length ≤ cap) (hA : A = none → cap = 0) (ha : a ≤ l.length) (hB : B ≤ w.heap.size) (hr : Rd w B A l) :
    Calls Try.prog 9 #[.slice A l.length cap, .int .i64 (a : Int)] w (OneSaid w (l.drop a) a) := by
  have B1 : Below w.heap.size w (w.alloc (.cells #[.int .u8 0, .slice none 0 0, .int .i64 0, .int .i64 0] 26)) := (Below.refl _ _).alloc (Nat.le_refl _) _
  have E1 : (w.alloc (.cells #[.int .u8 0, .slice none 0 0, .int .i64 0, .int .i64 0] 26)).heap[w.heap.size]? = some (.cells #[.int .u8 0, .slice none 0 0, .int .i64 0, .int .i64 0] 26) := heap_alloc_new w _
  have hS1 : (w.alloc (.cells #[.int .u8 0, .slice none 0 0, .int .i64 0, .int .i64 0] 26)).heap.size = w.heap.size + 1 := by simp
  obtain ⟨A', hsl, R, hA'⟩ := Coin.cut_any (hr.below B1 hB) l.length cap a rfl hc hA ha
  obtain ⟨r, hrr⟩ : ∃ r, r = l.drop a := ⟨_, rfl⟩
  have hrn : r.length = l.length - a := by rw [hrr, List.length_drop]
  rw [← hrr] at R ⊢
  generalize hm : l.length = m at *
  clear hrr hr hA
  have hc' : m - a ≤ cap - a := by omega
  obtain ⟨n, hn⟩ : ∃ n, n = m - a := ⟨_, rfl⟩
  obtain ⟨c, hcc⟩ : ∃ c, c = cap - a := ⟨_, rfl⟩
  rw [← hn] at hsl hrn hc'
  rw [← hcc] at hsl hA' hc'
  have cg := Coin.get_any A' c B r (w.alloc (.cells #[.int .u8 0, .slice none 0 0, .int .i64 0, .int .i64 0] 26)) (by omega) R
  rw [hrn] at cg
  have hn9 : n ≤ 900000 := by omega
  have ha9 : a ≤ 900000 := by omega
  have ham : (a : Int) ≤ m := by omega
  have HN := Lib.hid hrn
  clear hrn hn hcc hc hm hl
  have hg := Coin.got_lt r
  have hgl := got_len r
  obtain ⟨x1, h1⟩ : ∃ x, x = cnt r := ⟨_, rfl⟩
  obtain ⟨x2, h2⟩ : ∃ x, x = wid r := ⟨_, rfl⟩
  obtain ⟨x3, h3⟩ : ∃ x, x = (got r).2.2 := ⟨_, rfl⟩
  have cg := Calls.mono' cg (Q' := fun e w' => e = .returned (.tuple #[.int .u64 (x1 : Nat), .int .i64 (x2 : Nat), .int .i64 (x3 : Nat)]) ∧ w'.heap[w.heap.size]? = some (.cells #[.int .u8 0, .slice none 0 0, .int .i64 0, .int .i64 0] 26) ∧ Below w.heap.size w w' ∧ Rd w' B A' r ∧ w'.heap.size = w.heap.size + 1) (by
    rintro e w' ⟨rfl, x, rfl⟩
    exact ⟨by rw [h1, h2, h3]; rfl, E1, B1.trans ⟨rfl, rfl, rfl, Nat.le_refl _, fun _ _ => rfl⟩, R.keep fun _ _ => rfl, hS1⟩)
  rw [← h1, ← h2, ← h3] at hgl
  have hg1 : x1 < 18446744073709551616 := by rw [h1]; exact hg.1
  have hg2 : x2 ≤ 9 := by rw [h2]; exact hg.2.1
  have hg3 : x3 ≤ 5 := by rw [h3]; exact hg.2.2.2
  clear hg
  clear R B1 E1 hS1
  by_cases he : x3 = 0
  · have hx : err r = if 1048576 < x1 then 6 else if r.length < x2 + 1 + x1 + 4 then 5 else if tailb (more 0 (r.take (x2 + 1 + x1))) = (r.drop (x2 + 1 + x1)).take 4 then 0 else 4 := by
      unfold err
      rw [← h3, he, if_neg (by simp)]
      simp only [summed, summ, size, ← h1, ← h2]
    obtain ⟨q1, q2, q3, q4, _⟩ := hgl he
    subst he
    by_cases hd : 1048576 < x1
    · rw [if_pos hd] at hx
      have HX := Lib.hid hx
      have hd' : (1048576 : Int) < x1 := by omega
      clear hx h1 h2 h3 q1 q2 q3 q4
      go_enter Try.func9, Try.ntmps9
      go_wp2_with (first
        | (go_at_call 17; refine cg.mono ?_; rintro e w2 ⟨rfl, E2, B2, R2, S2⟩)
        | (with_reducible refine put26 rfl (.tmp 4) (.tmp 38) rfl w.heap.size rfl E2 rfl ?_; intro w3 E3 G3))
      (try simp only [Exit.inBlock, Exit.then])
      exact bodyPost_ret (res26 rfl _ _ w.heap.size 26 _ (0, 0) rfl E3 rfl) rfl (one_no HX.out (by decide) rfl (B2.grown G3 B2.size (fun k h => by cases h; exact Nat.le_refl _)))
    · rw [if_neg hd] at hx
      have cs := fsize_any x1 (by omega)
      rw [q1] at cs
      obtain ⟨S, hS⟩ : ∃ S, S = x2 + 1 + x1 + 4 := ⟨_, rfl⟩
      have e1 : x2 + 1 + x1 = S - 4 := by omega
      rw [← hS] at cs hx
      have hd' : ¬ (1048576 : Int) < x1 := by omega
      have hw1 : IntKind.i64.wrap (x1 : Int) = x1 := by rw [IntKind.wrap_i64]; omega
      rw [HN.out] at hx q4
      by_cases hs : n < S
      · rw [if_pos hs] at hx
        have HX := Lib.hid hx
        have hs' : (n : Int) < S := by omega
        clear hx h1 h2 h3 q1 q2 q3 q4 hS e1
        go_enter Try.func9, Try.ntmps9
        go_wp2_with (first
          | (go_at_call 17; refine cg.mono ?_; rintro e w2 ⟨rfl, E2, B2, R2, S2⟩)
          | (go_at_call 11; refine (cs _).mono ?_; rintro e w' ⟨rfl, rfl⟩)
          | (with_reducible refine put26 rfl (.tmp 4) (.tmp 46) rfl w.heap.size rfl E2 rfl ?_; intro w3 E3 G3))
        (try simp only [Exit.inBlock, Exit.then])
        exact bodyPost_ret (res26 rfl _ _ w.heap.size 26 _ (0, 0) rfl E3 rfl) rfl (one_no HX.out (by decide) rfl (B2.grown G3 B2.size (fun k h => by cases h; exact Nat.le_refl _)))
      · rw [if_neg hs, e1] at hx
        have hs' : ¬ (n : Int) < S := by omega
        have hS4 : 5 ≤ S := by omega
        obtain ⟨ad, hAd⟩ : ∃ ad, A' = some ad := by
          rcases A' with _ | ad
          · have := hA' rfl; omega
          · exact ⟨ad, rfl⟩
        subst hAd
        obtain ⟨Z, hZ⟩ : ∃ Z, Z = S - 4 := ⟨_, rfl⟩
        have hSZ : S = Z + 4 := by omega
        rw [← hZ] at hx e1
        have hup := Coin.upto_any (A := some ad) n c Z hA' hc' (by omega)
        have hbt := between_any ad n c Z S (by omega) (by omega) (by omega)
        rw [show S - Z = 4 by omega] at hbt
        have hT : (r.take Z).length = Z := by rw [List.length_take, HN.out]; omega
        obtain ⟨V, hV⟩ : ∃ V, V = r.take Z := ⟨_, rfl⟩
        rw [← hV] at hT hx
        have cq : ∀ w2, Rd w2 B (some ad) r → w.heap.size ≤ w2.heap.size → Calls Try.prog 16 #[.slice (some ad) Z c] w2 (SumSaid w2 V) := fun w2 h h2 => by
          have h3 := h.take Z
          rw [← hV] at h3
          have := sumof_any (some ad) c V w2 (by rw [hT]; omega) (h3.more (by omega))
          rw [hT] at this; exact this
        have hz : (S : Int) - 4 = (Z : Int) := by omega
        have hn2 : 5 ≤ n := by omega
        have hZ9 : Z ≤ 900000 := by omega
        have hZS : (Z : Int) + 4 = S := by omega
        have h4l : ((r.drop Z).take 4).length = 4 := by rw [List.length_take, List.length_drop, HN.out]; omega
        obtain ⟨b0, b1, b2, b3, h4⟩ : ∃ b0 b1 b2 b3, (r.drop Z).take 4 = [b0, b1, b2, b3] := by
          match hh : (r.drop Z).take 4, h4l with
          | [b0, b1, b2, b3], _ => exact ⟨b0, b1, b2, b3, rfl⟩
        have hc4 : ∀ w2, Rd w2 B (some ad) r → ∃ X, ad.add Z = X ∧ w2.cell? X = some (b8 b0) ∧ w2.cell? ⟨X.block, X.off + 1, none⟩ = some (b8 b1) ∧ w2.cell? ⟨X.block, X.off + 2, none⟩ = some (b8 b2) ∧ w2.cell? ⟨X.block, X.off + 3, none⟩ = some (b8 b3) := fun w2 h => by
          have h3 := (h.cut Z).take 4
          rw [h4] at h3
          obtain ⟨ad', e, _, hcell⟩ := h3 (by simp)
          simp only [Option.map_some, Option.some.injEq] at e
          subst e
          have c0 := hcell 0 (by simp)
          have c1 := hcell 1 (by simp)
          have c2 := hcell 2 (by simp)
          have c3 := hcell 3 (by simp)
          exact ⟨_, rfl, c0, c1, c2, c3⟩
        rw [h4] at hx
        have HH := Lib.hid (And.intro hx (And.intro hV (And.intro h4 (And.intro h1 (And.intro h2 (And.intro q3 (And.intro hSZ e1)))))))
        have HT := Lib.hid hT
        clear hx hV h4 h1 h2 q1 q2 q3 q4 hSZ h4l hT h3 hgl hZ hs e1 hS
        go_enter Try.func9, Try.ntmps9
        go_wp2_with (first
          | (go_at_call 17; refine cg.mono ?_; rintro e w2 ⟨rfl, E2, B2, R2, S2⟩)
          | (go_at_call 11; refine (cs _).mono ?_; rintro e w' ⟨rfl, rfl⟩))
        go_quiet (fail)
        go_wp2_with fail
        have E3 : (w2.drewN nq).heap[w.heap.size]? = some (.cells #[.int .u8 0, .slice none 0 0, .int .i64 0, .int .i64 0] 26) := E2
        have B3 : Below w.heap.size w (w2.drewN nq) := B2.trans ⟨rfl, rfl, rfl, Nat.le_refl _, fun _ _ => rfl⟩
        have R3 : Rd (w2.drewN nq) B (some ad) r := R2.keep fun _ _ => rfl
        have S3 : (w2.drewN nq).heap.size = w.heap.size + 1 := S2
        clear E2 B2 R2 S2
        generalize w2.drewN nq = w3 at *
        obtain ⟨X, hX, d0, d1, d2, d3⟩ := hc4 w3 R3
        rw [hX]
        have HX := Lib.hid hX
        have hat : ∀ w, (Instr.arrayAt 46 (.slice (some X) 4 (c - Z))).run Try.prog w = .ok (.pointer (some X)) w := fun w => run_arrayAt w 46 _ 4 _ 4 (c - Z) under4 (Nat.le_refl _)
        obtain ⟨u0, u1, u2, u3, hu, hU⟩ : ∃ u0 u1 u2 u3 : UInt8, tailb (more 0 V) = [u0, u1, u2, u3] ∧ ∀ w2, Rd w2 B (some ad) r → w.heap.size ≤ w2.heap.size → Calls Try.prog 16 #[.slice (some ad) Z c] w2 fun e w' => e = .returned (.agg #[b8 u0, b8 u1, b8 u2, b8 u3]) ∧ Below w2.heap.size w2 w' := ⟨_, _, _, _, rfl, cq⟩
        have hb8 : ∀ b : UInt8, b8 b = .int .u8 (b.toNat : Int) := fun _ => rfl
        simp only [hb8] at d0 d1 d2 d3 hU
        have HU := Lib.hid hu
        obtain ⟨y, hy⟩ : ∃ y : Bool, y = ([u0, u1, u2, u3] == [b0, b1, b2, b3]) := ⟨_, rfl⟩
        have heq : ∀ w, (Op.equalIn 10000 46 (.agg #[.int .u8 (u0.toNat : Int), .int .u8 (u1.toNat : Int), .int .u8 (u2.toNat : Int), .int .u8 (u3.toNat : Int)]) (.agg #[.int .u8 (b0.toNat : Int), .int .u8 (b1.toNat : Int), .int .u8 (b2.toNat : Int), .int .u8 (b3.toNat : Int)])).run Try.prog w = .ok y w := fun w => by
          rw [hy]; exact run_equalIn_bytes w 9998 46 5 4 under4 Try.underlying5 (fun w => sizeOf5 w) [u0, u1, u2, u3] [b0, b1, b2, b3] rfl rfl
        have HYY := Lib.hid hy
        generalize (u0.toNat : Int) = i0 at *
        generalize (u1.toNat : Int) = i1 at *
        generalize (u2.toNat : Int) = i2 at *
        generalize (u3.toNat : Int) = i3 at *
        generalize (b0.toNat : Int) = j0 at *
        generalize (b1.toNat : Int) = j1 at *
        generalize (b2.toNat : Int) = j2 at *
        generalize (b3.toNat : Int) = j3 at *
        have e0 := fun d os => cell_regrown d0 d os
        have e1 := fun d os => cell_regrown d1 d os
        have e2 := fun d os => cell_regrown d2 d os
        have e3 := fun d os => cell_regrown d3 d os
        have cQ : ∀ d os, Calls Try.prog 16 #[.slice (some ad) Z c] (grow (redrawn w3 d) os) fun e w'' => e = .returned (.agg #[.int .u8 i0, .int .u8 i1, .int .u8 i2, .int .u8 i3]) ∧ ∃ p : Regrown, w'' = grow (redrawn w3 p.d) p.os := fun d os => Calls.regrown_of (hU _ (R3.below (below_regrown w3 d os) (by omega)) (Nat.le_trans (by omega) (below_regrown w3 d os).size))
        clear hX hc4 cq hU hu hy cs cg d0 d1 d2 d3 hup hbt
        refine wp_region_quiet_below (by kernel_rfl) (by kernel_rfl) ?_
        repeat (quiet_step (with_reducible exact cQ _ _))
        refine wpQuiet_nil ?_
        intro _ hw'
        obtain ⟨⟨dq, osq⟩, hw''⟩ := hw'
        subst hw''
        have bq := below_regrown w3 dq osq
        have B4 : Below w.heap.size w (grow (redrawn w3 dq) osq) := B3.trans (bq.mono (by omega))
        have E4 : (grow (redrawn w3 dq) osq).heap[w.heap.size]? = some (.cells #[.int .u8 0, .slice none 0 0, .int .i64 0, .int .i64 0] 26) := (bq.block _ (by omega)).trans E3
        have R4 : Rd (grow (redrawn w3 dq) osq) B (some ad) r := R3.below bq (by omega)
        have S4 : w.heap.size + 1 ≤ (grow (redrawn w3 dq) osq).heap.size := by rw [← S3]; exact bq.size
        generalize grow (redrawn w3 dq) osq = w4 at *
        clear e0 e1 e2 e3 cQ heq hat bq E3 B3 R3 S3
        cases y with
        | false =>
          have hne : err r = 4 := by rw [HH.out.1, if_neg (by rw [HU.out]; intro h; have := HYY.out; simp [h] at this)]
          have HX := Lib.hid hne
          clear hne
          go_wp2_with (with_reducible refine put26 rfl (.tmp 4) (.tmp 62) rfl w.heap.size rfl E4 rfl ?_; intro w5 E5 G5)
          (try simp only [Exit.inBlock, Exit.then])
          exact bodyPost_ret (res26 rfl _ _ w.heap.size 26 _ (0, 0) rfl E5 rfl) rfl (one_no HX.out (by decide) rfl (B4.grown G5 B4.size (fun k h => by cases h; exact Nat.le_refl _)))
        | true =>
          have hZ : Z = x2 + 1 + x1 := by have := HH.out.2.2.2.2.2.2.2; omega
          have h0 : err r = 0 := by rw [HH.out.1, if_pos (by rw [HU.out]; exact eq_of_beq HYY.out.symm)]
          have hrl := HN.out
          have hx2 : x2 < r.length := by omega
          have hkd : kind r = r[x2] := by unfold kind; rw [← HH.out.2.2.2.2.1]; simp [List.getD, hx2]
          have hbd : body r = V.drop (x2 + 1) := by
            unfold body
            rw [← HH.out.2.2.2.2.1, ← HH.out.2.2.2.1, HH.out.2.1, List.drop_take, hZ]
            congr 1; omega
          have hbl : (V.drop (x2 + 1)).length = x1 := by rw [List.length_drop, HT.out]; omega
          have hmk := run_make_row' (P := Try.prog) 22 5 (.int .u8 0) 1 Try.underlying22 Coin.info5 rfl .u64 .u64 x1 (by omega) (by omega) w4
          have N5 := Coin.Row.new w4 x1
          have B5 : Below w4.heap.size w4 (w4.alloc (.cells (madeCells #[.int .u8 0] x1) 5)) := (Below.refl _ _).alloc (Nat.le_refl _) _
          obtain ⟨w5, hw5⟩ : ∃ w5, w5 = w4.alloc (.cells (madeCells #[.int .u8 0] x1) 5) := ⟨_, rfl⟩
          rw [← hw5] at hmk N5 B5
          have R5 : Rd w5 B (some ad) V := by rw [HH.out.2.1]; exact (R4.below B5 (by omega)).take Z
          obtain ⟨A2, hs2, R6, _⟩ := Coin.cut_any R5 Z c (x2 + 1) HT.out.symm (by omega) hA' (by omega)
          rw [show ((x2 + 1 : Nat) : Int) = (x2 : Int) + 1 by omega, show Z - (x2 + 1) = x1 by omega] at hs2
          have b5 : Below w.heap.size w w5 := B4.trans (B5.mono B4.size)
          have e5 := (B5.block _ (by omega)).trans E4
          have k5 : w5.cell? (ad.add x2) = some (.int .u8 ((kind r).toNat : Int)) := by
            obtain ⟨ad', e, hb, hc⟩ := R4 (by omega)
            injection e with e; subst e
            rw [B5.cell (by rw [Coin.block_add]; omega), hc x2 hx2, hkd]
            rfl
          have kb : (ad.add x2).block < w.heap.size := by
            obtain ⟨ad', e, hb, hc⟩ := R4 (by omega)
            injection e with e; subst e
            rw [Coin.block_add]; omega
          have hx2Z : (x2 : Int) < Z := by omega
          rw [← hbd] at hbl R6
          have HZ := Lib.hid (And.intro hbl (And.intro h0 hZ))
          clear hZ h0 hkd hbd hbl hw5 hx2 hrl R4 R5
          generalize hkk : ((kind r).toNat : Int) = kk at *
          have HK := Lib.hid hkk
          clear hkk
          have hmin : (body r).length = Nat.min x1 x1 := by rw [HZ.out.1]; exact (Nat.min_self _).symm
          go_wp2_with (first
            | (with_reducible refine Coin.copy_row rfl (.tmp 65) (.tmp 69) rfl w4.heap.size x1 x1 (c - (x2 + 1)) A2 rfl rfl (body r) hmin B R6 N5 w4.heap.size w4 B5 (Nat.le_refl _) ?_; intro w6 R7 B6; have e6 := (B6.block w.heap.size (by omega)).trans E4; have k6 : w6.cell? (ad.add x2) = some (.int .u8 kk) := ((B6.cell (by omega)).trans (B5.cell (by omega)).symm).trans k5)
            | (with_reducible refine put26 rfl (.tmp 4) (.tmp 80) rfl w.heap.size rfl e6 rfl ?_; intro w7 E7 G7))
          (try simp only [Exit.inBlock, Exit.then])
          refine bodyPost_ret (res26 rfl _ _ w.heap.size 26 _ (0, 0) rfl E7 rfl) rfl ?_
          rw [HZ.out.1, Nat.sub_self, List.replicate_zero, List.append_nil] at R7
          have R8 : Row w7 w4.heap.size (body r) := (G7.block _ R7.lt (by intro h; injection h with h; omega)).trans R7
          refine ⟨fun h => absurd HZ.out.2.1 h, fun _ => ⟨w4.heap.size, ?_, R8, by omega⟩, (B4.trans (B6.mono B4.size)).grown G7 (Nat.le_trans B4.size B6.size) (fun k h => by cases h; exact Nat.le_refl _)⟩
          have es : a + size r = a + S := by unfold size; rw [← HH.out.2.2.2.1, ← HH.out.2.2.2.2.1]; have := HH.out.2.2.2.2.2.2.1; have := HZ.out.2.2; omega
          rw [es, ← HH.out.2.2.2.1]
          unfold itemV
          rw [HK.out, Int.natCast_add]
          rfl
  · have hx : err r = x3 := by unfold err; rw [← h3, if_pos he]
    have HX := Lib.hid hx
    clear hx h1 h2 h3 hgl
    go_enter Try.func9, Try.ntmps9
    go_wp2_with (first
      | (go_at_call 17; refine cg.mono ?_; rintro e w2 ⟨rfl, E2, B2, R2, S2⟩)
      | (with_reducible refine put26 rfl (.tmp 4) (.tmp 34) rfl w.heap.size rfl E2 rfl ?_; intro w3 E3 G3))
    (try simp only [Exit.inBlock, Exit.then])
    exact bodyPost_ret (res26 rfl _ _ w.heap.size 26 _ (0, 0) rfl E3 rfl) rfl (one_no HX.out he rfl (B2.grown G3 B2.size (fun k h => by cases h; exact Nat.le_refl _)))
end Go.Proofs.Ytjhkgdgbmmpegaa.Frm
