/- Marks by prefixes: a map[api.Prefix]api.Mark in memory. -/
import Derived.Test.YtkbhmdoichiinaaSa
namespace Go.Proofs.Ytkbhmdoichiinaa.Src
open Pre Ser
open Go.ChangeShapes Go.WideShapes Go.ChangeAt Go.RowKit
set_option maxRecDepth 8000

/-- Which mark each prefix has. -/
abbrev Mk := Nat → Nat → Option (Nat × Nat)
def Mk.put (f : Mk) (a n : Nat) (m : Nat × Nat) : Mk := fun b k => if b = a ∧ k = n then some m else f b k

theorem laidOut : laidOutB Try.prog = true := by kernel_rfl
theorem cells34 : Try.prog.cellsOf 39 = 2 := by kernel_rfl
theorem row34 : (39 : TypeId) < Try.prog.types.size := of_decide_eq_true (by kernel_rfl)
theorem wide34 : (match Try.prog.underlying 39 with | some (.array _ _) | some (.struct _) => true | _ => false) = true := by rw [Try.underlying39]
theorem law34 : WideMaps.KeyLaw Try.prog 39 := deep_law_laid laidOut (m := 2) (by omega) row34 (by kernel_rfl) wide34
theorem keyed34 : Maps.Keyed Try.prog 39 := .of_law law34
def pv (a n : Nat) : Value := .agg #[.int .u32 (a : Int), .int .u8 (n : Int)]
def mv (m : Nat × Nat) : Value := .agg #[.int .u16 (m.1 : Int), .int .u16 (m.2 : Int)]
def keyL (a n : Nat) : Lit := .string (keyBytes [.int .u32 (a : Int), .int .u8 (n : Int)])
theorem wf_iff {k : IntKind} {n : Int} : (Lit.int k n).wf = true ↔ k.min ≤ n ∧ n ≤ k.max := by
  show (decide _ && decide _) = true ↔ _
  rw [Bool.and_eq_true, decide_eq_true_iff, decide_eq_true_iff]
theorem wf_u32 (a : Nat) (ha : a < 4294967296) : (Lit.int .u32 (a : Int)).wf = true := wf_iff.2 ⟨by show (0 : Int) ≤ _; omega, by show _ ≤ (4294967295 : Int); omega⟩
theorem wf_u8 (a : Nat) (ha : a < 256) : (Lit.int .u8 (a : Int)).wf = true := wf_iff.2 ⟨by show (0 : Int) ≤ _; omega, by show _ ≤ (255 : Int); omega⟩
theorem lits_int {P : Program} {d : Nat} {t : TypeId} {q : IntKind} {n : Int} (ht : P.underlying t = some (.int q)) (hw : (Lit.int q n).wf = true) : P.keyLits (d + 1) t [.int q n] = some [.int q n] := by
  unfold Program.keyLits
  rw [ht]
  simp [hw]
theorem key34 (a n : Nat) (ha : a < 4294967296) (hn : n < 256) : keyOf Try.prog 39 (pv a n) = some (keyL a n) := by
  have hk : Try.prog.keyType 39 = true := by kernel_rfl
  have hf : (pv a n).formed Try.prog 39 = true := by simp [pv, Value.formed, Try.underlying39, cells34]
  obtain ⟨N, hN⟩ : ∃ N, Try.prog.types.size = N + 1 := ⟨Try.prog.types.size - 1, (Nat.succ_pred_eq_of_pos (Nat.lt_of_le_of_lt (Nat.zero_le _) row34)).symm⟩
  have c32 : Try.prog.cellsOf 37 = 1 := by kernel_rfl
  have c5 : Try.prog.cellsOf 5 = 1 := by kernel_rfl
  have hl : Try.prog.keyLits (Try.prog.types.size + 1) 39 (pv a n).cells.toList = some [.int .u32 (a : Int), .int .u8 (n : Int)] := by
    rw [hN]
    unfold Program.keyLits
    rw [Try.underlying39]
    simp [pv, Value.cells, cells34, c32, c5, lits_int Try.underlying37 (wf_u32 a ha), lits_int Try.underlying5 (wf_u8 n hn)]
  unfold keyOf
  rw [Try.underlying39]
  simp only [hk, hf, Bool.and_self, if_true, hl, Option.map_some]
  rfl
theorem keyL_inj {a n b k : Nat} (ha : a < 4294967296) (hn : n < 256) (hb : b < 4294967296) (hk : k < 256) (h : keyL a n = keyL b k) : a = b ∧ n = k := by
  have e := keyed34.inj (key34 a n ha hn) (h ▸ key34 b k hb hk)
  unfold pv at e
  injection e with e
  simp only [Array.mk.injEq, List.cons.injEq, Value.int.injEq, true_and, and_true] at e
  omega
variable {H : Type}
/-- How a mark reads. -/
def markR : Value → Option (DataW H × List MemPlace)
  | .agg ⟨[.int .u16 s, .int .u16 m]⟩ => some (.agg [.lit (.int .u16 s), .lit (.int .u16 m)], [])
  | _ => none
def mD (m : Nat × Nat) : DataW H := .agg [.lit (.int .u16 (m.1 : Int)), .lit (.int .u16 (m.2 : Int))]
theorem markR_mk (m : Nat × Nat) : markR (H := H) (mv m) = some (mD m, []) := rfl
theorem markR_inv {v : Value} {ps : List MemPlace} {m : Nat × Nat} (h : markR (H := H) v = some (mD m, ps)) : v = mv m := by
  unfold markR at h
  split at h
  · injection h with h
    injection h with h1 h2
    unfold mD at h1
    injection h1 with h1
    simp only [List.cons.injEq, DataW.lit.injEq, Lit.int.injEq, true_and, and_true] at h1
    obtain ⟨rfl, rfl⟩ := h1
    rfl
  · cases h
/-- Block b is a map whose marks are f's, c of them. -/
def MapAt (w : World) (b : Nat) (f : Mk) (c : Nat) : Prop := ∃ D : DataW Unit, w.ownsMap Try.prog 39 markR b c D ∧ Maps.size D = c ∧ ∀ a n, a < 4294967296 → n < 256 → Maps.has D (keyL a n) = (f a n).isSome ∧ ∀ m, f a n = some m → ∀ z, D.atKey (keyL a n) z = mD m
theorem own_size {w : World} {b n : Nat} {D : DataW Unit} (h : w.ownsMap Try.prog 39 markR b n D) : w.ownsMap Try.prog 39 markR b (Maps.size D) D := by
  obtain ⟨es, clock, hb, F, hs, rfl⟩ := h
  exact ⟨es, clock, hb, F, by simp [Maps.size, length_sorted], rfl⟩
theorem MapAt.kept {w w' : World} {b c : Nat} {f : Mk} {row : Option Nat} (h : MapAt w b f c) (hg : w.grownBy w' row) (hne : some b ≠ row) : MapAt w' b f c := by
  obtain ⟨D, h1, h2⟩ := h; exact ⟨D, h1.kept hg hne, h2⟩
theorem MapAt.lt {w : World} {b c : Nat} {f : Mk} (h : MapAt w b f c) : b < w.heap.size := by obtain ⟨D, h1, _⟩ := h; exact h1.lt
theorem MapAt.made (w : World) : MapAt (w.alloc (.map #[] 0)) w.heap.size (fun _ _ => none) 0 :=
  ⟨_, World.ownsMap_made w Try.prog 39 markR, rfl, fun a n _ _ => ⟨rfl, fun m h => by cases h⟩⟩
/-- It is a map. -/
theorem MapAt.isMap {w : World} {b c : Nat} {f : Mk} (h : MapAt w b f c) : ∃ es clock, w.heap[b]? = some (.map es clock) := by
  obtain ⟨D, ⟨es, clock, hb, _⟩, _⟩ := h; exact ⟨es, clock, hb⟩
def lookV (x : Option (Nat × Nat)) : Value := mv (x.getD (0, 0))
theorem zero28 (w : World) : (zeroValue 41).run Try.prog w = .ok (mv (0, 0)) w := by kernel_rfl
theorem MapAt.look {w : World} {b c : Nat} {f : Mk} (h : MapAt w b f c) {a n : Nat} (ha : a < 4294967296) (hn : n < 256) :
    (Instr.lookup 89 (.map (some b)) (pv a n) true).run Try.prog w = .ok (.tuple #[lookV (f a n), .bool (f a n).isSome]) w := by
  obtain ⟨D, h1, h2, h3⟩ := h
  obtain ⟨v, ps, hr, hv⟩ := h1.look_ok keyed34 Try.underlying89 (zero28 w) (zd := mD (0, 0)) (zp := []) (markR_mk (0, 0)) (key34 a n ha hn)
  obtain ⟨e1, e2⟩ := h3 a n ha hn
  rw [hr, e1]
  cases hf : f a n with
  | none =>
    rw [hf] at e1
    rw [Maps.atKey_of_not_has e1] at hv
    rw [markR_inv hv]; rfl
  | some m =>
    rw [e2 m hf] at hv
    rw [markR_inv hv]; rfl
theorem look_nil (w : World) {a n : Nat} (ha : a < 4294967296) (hn : n < 256) :
    (Instr.lookup 89 (.map none) (pv a n) true).run Try.prog w = .ok (.tuple #[mv (0, 0), .bool false]) w :=
  Maps.look_nil true keyed34 Try.underlying89 (zero28 w) (key34 a n ha hn)
theorem keyL_is (a n : Nat) (ha : a < 4294967296) (hn : n < 256) : WideAt.IsKeyLit (keyL a n) := keyed34.key (key34 a n ha hn)
theorem MapAt.put {w : World} {b c : Nat} {f : Mk} (h : MapAt w b f c) {a n : Nat} (ha : a < 4294967296) (hn : n < 256) (hc : c < 100000) (m : Nat × Nat) :
    ∃ w', (Instr.mapUpdate 89 (.map (some b)) (pv a n) (mv m)).run Try.prog w = .ok () w' ∧ MapAt w' b (f.put a n m) (if (f a n).isSome then c else c + 1) ∧ w.grownBy w' (some b) := by
  obtain ⟨D, h1, h2, h3⟩ := h
  obtain ⟨w', hr, ho, hg⟩ := h1.update keyed34 Try.underlying89 (by unfold maxLen; omega) (key34 a n ha hn) (markR_mk m)
  have hs : Maps.size (D.put (keyL a n) (mD m)) = if (f a n).isSome then c else c + 1 := by rw [Maps.size_put (h1.tidy keyed34), (h3 a n ha hn).1, h2]
  refine ⟨w', hr, ⟨_, hs ▸ own_size ho, hs, fun b k hb hk => ?_⟩, hg⟩
  unfold Mk.put
  by_cases e : b = a ∧ k = n
  · obtain ⟨rfl, rfl⟩ := e
    rw [if_pos ⟨rfl, rfl⟩, Maps.has_put_same h1.isMap (keyL_is _ _ ha hn)]
    exact ⟨rfl, fun m' hm z => by rw [Maps.atKey_put_same h1.isMap (keyL_is _ _ ha hn)]; cases hm; rfl⟩
  · have hne : keyL b k ≠ keyL a n := fun e' => e (keyL_inj hb hk ha hn e')
    rw [if_neg e, Maps.has_put_other hne]
    exact ⟨(h3 b k hb hk).1, fun m' hm z => by rw [Maps.atKey_put_other hne]; exact (h3 b k hb hk).2 m' hm z⟩
theorem MapAt.len {w : World} {b c : Nat} {f : Mk} (h : MapAt w b f c) (ty : TypeId) : (Builtin.len_ #[89] ty #[.map (some b)]).run Try.prog w = .ok (.int .i64 c) w := by
  obtain ⟨D, h1, h2, -⟩ := h
  rw [← h2]; exact h1.len Try.underlying89 ty
/-- The map of a source: nil, or one. -/
def MV (lo : Nat) (w : World) (v : Value) (f : Mk) (c : Nat) : Prop := (v = .map none ∧ f = (fun _ _ => none) ∧ c = 0) ∨ ∃ b, v = .map (some b) ∧ lo ≤ b ∧ MapAt w b f c
/-- A source at block q. -/
def SrcAt (lo : Nat) (w : World) (q : Nat) (f : Mk) (c : Nat) : Prop := lo ≤ q ∧ ∃ v, w.heap[q]? = some (.cells #[v] 91 (0, 0)) ∧ MV lo w v f c
/-- What a call on a source leaves: all cells but its own. -/
structure K (lo : Nat) (w w' : World) : Prop where
  below : Below lo w w'
  cells : ∀ (i : Nat) (x : Array Value) (t : TypeId) (fr : Nat × Nat), w.heap[i]? = some (Obj.cells x t fr) → t ≠ 91 → w'.heap[i]? = some (Obj.cells x t fr)
theorem K.refl (lo : Nat) (w : World) : K lo w w := ⟨Below.refl _ _, fun _ _ _ _ h _ => h⟩
theorem K.trans {lo : Nat} {a b c : World} (h : K lo a b) (h' : K lo b c) : K lo a c := ⟨h.below.trans h'.below, fun i x t fr e ht => h'.cells i x t fr (h.cells i x t fr e ht) ht⟩
theorem K.of {lo : Nat} {w w' : World} (h : Below w.heap.size w w') (hl : lo ≤ w.heap.size) : K lo w w' := ⟨h.mono hl, fun i _ _ _ e _ => (h.block i (Array.getElem?_eq_some_iff.1 e).1).trans e⟩
theorem K.mono {lo lo' : Nat} {w w' : World} (h : K lo w w') (hl : lo' ≤ lo) : K lo' w w' := ⟨h.below.mono hl, h.cells⟩
theorem below_grown {w w1 w2 : World} {B q : Nat} (h : Below B w w1) (hB : B ≤ w.heap.size) (g : w1.grownBy w2 (some q)) (hq : B ≤ q) : Below B w w2 :=
  ⟨g.os.trans h.os, g.tape.trans h.tape, g.output.trans h.output, Nat.le_trans h.size g.size, fun k hk => (g.block k (Nat.lt_of_lt_of_le hk (Nat.le_trans hB h.size)) (by intro e; injection e; omega)).trans (h.block k hk)⟩
theorem MV.kept {lo : Nat} {w w' : World} {v : Value} {f : Mk} {c : Nat} {row : Option Nat} (h : MV lo w v f c) (hg : w.grownBy w' row) (hr : ∀ i, row = some i → ∃ x t fr, w.heap[i]? = some (.cells x t fr)) : MV lo w' v f c := by
  rcases h with h | ⟨b, h1, h2, h3⟩
  · exact Or.inl h
  · refine Or.inr ⟨b, h1, h2, h3.kept hg fun e => ?_⟩
    obtain ⟨x, t, fr, e1⟩ := hr b e.symm
    obtain ⟨es, cl, e2⟩ := h3.isMap
    rw [e1] at e2; cases e2
theorem grown_below {w w' : World} (h : Below w.heap.size w w') : w.grownBy w' none := ⟨h.os, h.tape, h.output, h.size, fun k hk _ => h.block k hk⟩
theorem MV.below {lo : Nat} {w w' : World} {v : Value} {f : Mk} {c : Nat} (h : MV lo w v f c) (hb : Below w.heap.size w w') : MV lo w' v f c := h.kept (grown_below hb) (fun _ e => by cases e)
theorem SrcAt.lt {lo : Nat} {w : World} {q : Nat} {f : Mk} {c : Nat} (h : SrcAt lo w q f c) : q < w.heap.size := by obtain ⟨-, v, h, -⟩ := h; exact (Array.getElem?_eq_some_iff.1 h).1
theorem SrcAt.below {lo : Nat} {w w' : World} {q : Nat} {f : Mk} {c : Nat} (h : SrcAt lo w q f c) (hb : Below w.heap.size w w') : SrcAt lo w' q f c := by
  have hq := h.lt
  obtain ⟨hl, v, hr, hv⟩ := h
  exact ⟨hl, v, (hb.block _ hq).trans hr, hv.below hb⟩
/-- A write into a block of cells of another type leaves a source as it was. -/
theorem SrcAt.kept {lo : Nat} {w w' : World} {q : Nat} {f : Mk} {c i : Nat} (h : SrcAt lo w q f c) (hg : w.grownBy w' (some i)) {x : Array Value} {t : TypeId} {fr : Nat × Nat} (hi : w.heap[i]? = some (.cells x t fr)) (ht : t ≠ 91) : SrcAt lo w' q f c := by
  have hq := h.lt
  obtain ⟨hl, v, hr, hv⟩ := h
  refine ⟨hl, v, (hg.block _ hq ?_).trans hr, hv.kept hg fun i' e => ?_⟩
  · intro e; injection e with e; subst e
    rw [hr] at hi; injection hi with hi; injection hi with _ h2 _; exact ht h2.symm
  · injection e with e; subst e; exact ⟨x, t, fr, hi⟩
def Mk.best (f : Mk) (a n : Nat) (m : Nat × Nat) : Nat × Nat := match f a n with | none => m | some x => if nearer m.1 m.2 x.1 x.2 then m else x
def Mk.feas (f : Mk) (a n : Nat) (m : Nat × Nat) : Bool := decide (m.2 = 65535) || match f a n with | none => true | some x => nearer m.1 m.2 x.1 x.2
end Go.Proofs.Ytkbhmdoichiinaa.Src
