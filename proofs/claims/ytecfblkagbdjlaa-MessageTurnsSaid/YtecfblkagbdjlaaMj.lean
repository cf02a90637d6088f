/- What takeParts answers; contract: takeParts. -/
import Derived.Test.YtecfblkagbdjlaaMi
namespace Go.Proofs.Ytecfblkagbdjlaa.Msg
open Go.ChangeShapes Go.WideShapes Go.ChangeAt Go.RowKit
open Coin (coin sz b8 Rd Row Own CoinOwn put_any sz_le length_coin takeV endV bytesV got got_lt Pur take_any BytesSaid bytes_any)
set_option maxRecDepth 8000

def dpN : Nat → List UInt8 → Option (List Pt × Nat)
  | _, [] => some ([], 0)
  | 0, _ :: _ => none
  | k + 1, b :: r =>
    if (t1 b r).2.2.2 ≠ 0 then none
    else if isKnown (t1 b r).1 = true then
      if (po (t1 b r).1 (t1 b r).2.1).2 ≠ 0 then none else (dpN k (t1 b r).2.2.1).map fun x => ((po (t1 b r).1 (t1 b r).2.1).1 :: x.1, x.2)
    else (dpN k (t1 b r).2.2.1).map fun x => (x.1, x.2 + 1)
/-- All parts that some bytes tell, and how many there are of other kinds. -/
def dp (l : List UInt8) : Option (List Pt × Nat) := dpN l.length l
theorem dpN_any (n : Nat) : ∀ l : List UInt8, l.length ≤ n → ∀ k k', l.length ≤ k → l.length ≤ k' → dpN k l = dpN k' l := by
  induction n with
  | zero =>
    intro l hl k k' _ _
    obtain rfl : l = [] := List.eq_nil_of_length_eq_zero (by omega)
    cases k <;> cases k' <;> rfl
  | succ n ih =>
    intro l hl k k' hk hk'
    rcases l with _ | ⟨b, r⟩
    · cases k <;> cases k' <;> rfl
    · rcases k with _ | k
      · simp at hk
      · rcases k' with _ | k'
        · simp at hk'
        · simp only [List.length_cons] at hl hk hk'
          have h := (t1_facts b r).2.2.1
          have e := ih (t1 b r).2.2.1 (by omega) k k' (by omega) (by omega)
          simp only [dpN, e]
theorem dp_nil : dp [] = some ([], 0) := rfl
theorem dp_cons (b : UInt8) (r : List UInt8) : dp (b :: r) = if (t1 b r).2.2.2 ≠ 0 then none
    else if isKnown (t1 b r).1 = true then
      if (po (t1 b r).1 (t1 b r).2.1).2 ≠ 0 then none else (dp (t1 b r).2.2.1).map fun x => ((po (t1 b r).1 (t1 b r).2.1).1 :: x.1, x.2)
    else (dp (t1 b r).2.2.1).map fun x => (x.1, x.2 + 1) := by
  have h := (t1_facts b r).2.2.1
  have e := dpN_any r.length (t1 b r).2.2.1 h r.length (t1 b r).2.2.1.length h (Nat.le_refl _)
  have e0 : dp (b :: r) = dpN (r.length + 1) (b :: r) := rfl
  rw [e0]
  simp only [dpN, e]
  rfl
/-- Parts in a slice of the call's own. -/
theorem flat_cl (l : List Pt) : (l.flatMap Pt.cl).length = l.length * 7 := by
  induction l with
  | nil => rfl
  | cons x l ih => simp only [List.flatMap_cons, List.length_append, ih, List.length_cons]; show 7 + _ = _; omega
theorem flat_at (l : List Pt) : ∀ k i, (hk : k < l.length) → i < 7 → (l.flatMap Pt.cl)[k * 7 + i]? = l[k].cl[i]? := by
  induction l with
  | nil => intro k i hk; simp at hk
  | cons x l ih =>
    intro k i hk hi
    rw [List.flatMap_cons]
    rcases k with _ | k
    · rw [List.getElem?_append_left (by show _ < 7; omega)]
      simp
    · rw [List.getElem?_append_right (by show 7 ≤ _; omega)]
      have e : (k + 1) * 7 + i - x.cl.length = k * 7 + i := by show (k + 1) * 7 + i - 7 = _; omega
      rw [e, ih k i (by simpa using hk) hi]
      rfl
theorem pt_one (x : Pt) : ∀ u ∈ x.cl, u.oneCell' = true := by
  intro u hu
  simp [Pt.cl] at hu
  rcases hu with rfl | rfl | rfl | rfl | rfl | rfl | rfl <;> rfl
def PtOwn (w : World) (B : Nat) (v : Value) (l : List Pt) : Prop := w.ownsRow B 28 7 v l.length (l.flatMap Pt.cl)
theorem PtOwn.nil (w : World) (B : Nat) : PtOwn w B (.slice none 0 0) [] := World.ownsRow_nil w B 28 7
theorem PtOwn.kept {w w' : World} {B : Nat} {v : Value} {l : List Pt} (h : PtOwn w B v l) (hb : Below w.heap.size w w') : PtOwn w' B v l :=
  World.ownsRow.kept (row := none) h ⟨hb.os, hb.tape, hb.output, hb.size, fun k hk _ => hb.block k hk⟩ (by cases v.ownBlock <;> simp)
theorem PtOwn.keptBut {w w' : World} {B q : Nat} {v : Value} {l : List Pt} (h : PtOwn w B v l) (hg : w.grownBy w' (some q)) (hq : q < B) : PtOwn w' B v l :=
  World.ownsRow.kept (row := some q) h hg (Or.inr fun e => by have := (World.ownsRow.lt h q e).1; omega)
theorem PtOwn.lt {w : World} {B : Nat} {v : Value} {l : List Pt} (h : PtOwn w B v l) : ∀ k, v.ownBlock = some k → B ≤ k ∧ k < w.heap.size := World.ownsRow.lt h
theorem PtOwn.form {w : World} {B : Nat} {v : Value} {l : List Pt} (h : PtOwn w B v l) : ∃ A c, v = .slice A l.length c ∧ PSl w A l := by
  rcases h.2 with ⟨hv, hn⟩ | ⟨g, cap, cur, hv, hB, hg, h1, h2, h3, h4⟩
  · have e : l.length = 0 := hn
    exact ⟨none, 0, by rw [hv, e], fun k hk => absurd hk (by omega)⟩
  · refine ⟨some ⟨g, 0, none⟩, cap, hv, fun k hk => ⟨g, 0, rfl, (Array.getElem?_eq_some_iff.1 hg).1, ?_⟩⟩
    have hc : ∀ i u, i < 7 → (l[k].cl)[i]? = some u → w.cell? ⟨g, 0 + k * 7 + i, none⟩ = some u := fun i u hi hu => by
      rw [cell_of_row w g _ cur 28 (0, 0) hg, Nat.zero_add]
      have hx := flat_at l k i hk hi
      rw [← h4, List.getElem?_take, if_pos (by omega), hu] at hx
      simpa using hx
    exact ⟨hc 0 _ (by decide) rfl, hc 1 _ (by decide) rfl, hc 2 _ (by decide) rfl, hc 3 _ (by decide) rfl, hc 4 _ (by decide) rfl, hc 5 _ (by decide) rfl, hc 6 _ (by decide) rfl⟩
theorem info28 : (Try.prog.info? 28).map (fun i => (i.zero, i.size, i.bytes)) = some (some (.agg #[.int .u8 0, .int .u64 0, .int .i64 0, .int .u32 0, .int .u8 0, .int .u16 0, .int .u16 0]), 7, 40) := by kernel_rfl
theorem cells_pt (W : World) (x : Pt) (b : Nat) (hb : b = W.heap.size) (xs : Array Value) (he : xs = x.cl.toArray) : ∀ j u, x.cl[j]? = some u → (W.alloc (.cells xs 28)).cell? ((⟨b, 0, none⟩ : Addr).add j) = some u := by
  intro j u hj
  subst hb he
  rw [Addr.add_lit, Nat.zero_add, cell_of_row _ _ j _ 28 (0, 0) (heap_alloc_new W _), ← hj]
  simp
theorem app_pt {w : World} {ops : Array Oper} {rest : List Oper} {o : Oper} {a : Act} {Q : Exit → Act → World → Prop} (hgd : o.guard = none) (s x : Operand)
    (ho : o.op = .call { callee := .builtin .append, args := #[s, x], argTypes := #[32, 32] }) (B : Nat) (v : Value) (l : List Pt) (r : Pt) (b : Nat)
    (hs : a.eval s = v) (hx : a.eval x = .slice (some ⟨b, 0, none⟩) 1 1) (hown : PtOwn w B v l) (hc : ∀ j u, r.cl[j]? = some u → w.cell? ((⟨b, 0, none⟩ : Addr).add j) = some u) (hlen : l.length ≤ 100000) (hB : B ≤ w.heap.size)
    (h : ∀ v' w', PtOwn w' B v' (l ++ [r]) → w.grownBy w' v.ownBlock → wpList Try.prog ops Q rest (a.put o.dst v') w') : wpList Try.prog ops Q (o :: rest) a w := by
  obtain ⟨i0, hi, hz0, hz1, hz2⟩ := info_parts info28
  refine wpList_append_own_at w hgd s x 32 ho B 28 i0 _ 7 40 Try.underlying32 hi hz0 hz1 hz2 rfl (by decide) v l.length (l.flatMap Pt.cl) hs hown ⟨b, 0, none⟩ 1 1 r.cl hx rfl hc (pt_one r) (by unfold maxLen; omega) (by omega) hB ?_
  intro v' w' h1 h2 _ _
  refine h v' w' ?_ h2
  unfold PtOwn
  rw [List.length_append, List.flatMap_append]
  simpa using h1
/-- What takeParts has in memory. -/
structure Ps (w wx : World) (q : Nat) (l : List UInt8) (f : Nat) (xs : List Pt) (v : Value) : Prop where
  pu : Pur wx q l f
  own : PtOwn wx w.heap.size v xs
  gr : w.grownBy wx (some q)
  qt : q < w.heap.size
theorem Ps.one {w wx w' : World} {q : Nat} {l l' : List UInt8} {f f' : Nat} {xs : List Pt} {v : Value} (h : Ps w wx q l f xs v) (P : Pur w' q l' f') (G : wx.grownBy w' (some q)) : Ps w w' q l' f' xs v :=
  ⟨P, h.own.keptBut G h.qt, Coin.grown_trans h.gr G, h.qt⟩
theorem Ps.step {w wx w' : World} {q : Nat} {l : List UInt8} {f : Nat} {xs : List Pt} {v : Value} (h : Ps w wx q l f xs v) (B : Below wx.heap.size wx w') : Ps w w' q l f xs v :=
  ⟨h.pu.below B, h.own.kept B, Coin.grown_trans h.gr ⟨B.os, B.tape, B.output, B.size, fun k hk _ => B.block k hk⟩, h.qt⟩
theorem Ps.app {w wx w' : World} {q : Nat} {l : List UInt8} {f : Nat} {xs xs' : List Pt} {v v' : Value} (h : Ps w wx q l f xs v) (O : PtOwn w' w.heap.size v' xs') (G : wx.grownBy w' v.ownBlock) : Ps w w' q l f xs' v' := by
  have hk : ∀ k, k < w.heap.size → w'.heap[k]? = wx.heap[k]? := fun k hk => G.block k (Nat.lt_of_lt_of_le hk h.gr.size) (fun e => by have := (h.own.lt k e.symm).1; omega)
  exact ⟨h.pu.far fun k hk' => hk k (by have := h.qt; omega), O, ⟨G.os.trans h.gr.os, G.tape.trans h.gr.tape, G.output.trans h.gr.output, Nat.le_trans h.gr.size G.size, fun k h1 h2 => (hk k h1).trans (h.gr.block k h1 h2)⟩, h.qt⟩
/-- What a purse's cells say. -/
def msr (q : Nat) (wr : World) : Nat := match wr.heap[q]? with
  | some (.cells c _ _) => (match (c[0]? : Option Value), (c[1]? : Option Value) with | some (Value.slice _ n _), some (Value.int _ f) => n + (if f = 0 then 1 else 0) | _, _ => 0)
  | _ => 0
theorem msr_pur {w : World} {q f : Nat} {l : List UInt8} (h : Pur w q l f) : msr q w = l.length + (if f = 0 then 1 else 0) := by
  obtain ⟨g, off, cap, h1, _⟩ := h
  unfold msr
  rw [h1]
  simp
/-- What takeParts answers. -/
def TpsSaid (w : World) (q : Nat) : Option (List Pt × Nat) → Ending → World → Prop
  | some r, e, w' => ∃ A c, e = .returned (.tuple #[.slice A r.1.length c, .int .i64 (r.2 : Int), .int .i64 0]) ∧ PSl w' A r.1 ∧ r.1.length ≤ 100000 ∧ w.grownBy w' (some q)
  | none, e, w' => ∃ x : Nat, x ≠ 0 ∧ x ≤ 12 ∧ e = .returned (.tuple #[.slice none 0 0, .int .i64 0, .int .i64 (x : Int)]) ∧ w.grownBy w' (some q)
/-- How far takeParts is. -/
structure PsI (R : Option (List Pt × Nat)) (L : Nat) (w wx : World) (q : Nat) (l : List UInt8) (f u : Nat) (xs : List Pt) (v : Value) : Prop where
  ps : Ps w wx q l f xs v
  fl : f ≤ 12
  ul : u + l.length ≤ L
  xl : xs.length + l.length ≤ L
  ok : f = 0 → R = (dp l).map fun x => (xs ++ x.1, u + x.2)
  no : f ≠ 0 → R = none
end Go.Proofs.Ytecfblkagbdjlaa.Msg
