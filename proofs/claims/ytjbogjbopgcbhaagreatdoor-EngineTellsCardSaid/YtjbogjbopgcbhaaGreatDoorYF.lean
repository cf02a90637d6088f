/- A router, plainly, and in memory: what its calls may turn. slices.Insert of one neighbor into rows of the call's own. slices.Insert of one prefix into rows of the call's own. Rows of structs in memory; slices.IndexFunc and ContainsFunc over them. A router: which prefixes are its own; what closures of it say. A router: home. -/
import Derived.Test.YtjbogjbopgcbhaaGreatDoorYE
import Derived.Test.YtjbogjbopgcbhaaGreatDoorYL
namespace Go.Proofs.YtjbogjbopgcbhaaGreatDoor.Eg
open Pre Ser Rts
open Go.Proofs.YtjbogjbopgcbhaaGreatDoor.Src (row1 row2 Mk SrcAt)
open Go.Proofs.YtjbogjbopgcbhaaGreatDoor.Lk (LkAt)
open Go.ChangeShapes Go.WideShapes Go.ChangeAt Go.RowKit
set_option maxRecDepth 8000
set_option linter.unusedVariables false
theorem row_ne {w : World} {i k : Nat} {x y : Array Value} {t u : TypeId} {fr fs : Nat × Nat} (h : w.heap[i]? = some (.cells x t fr)) (h' : w.heap[k]? = some (.cells y u fs)) (ht : t ≠ u) : i ≠ k := fun e => by
  subst e
  rw [h] at h'; injection h' with h'; injection h' with _ h2 _; exact ht h2
structure Hm where
  a : Nat
  n : Nat
  s : Nat
deriving DecidableEq
def Hm.cl (h : Hm) : List Value := [.int .u32 (h.a : Int), .int .u8 (h.n : Int), .int .u16 (h.s : Int)]
structure Pt where
  k : Nat
  n : Nat
  d : Nat
  a : Nat
  l : Nat
  s : Nat
  m : Nat
deriving DecidableEq
def Pt.cl (x : Pt) : List Value := [.int .u8 (x.k : Int), .int .u64 (x.n : Int), .int .i64 (x.d : Int), .int .u32 (x.a : Int), .int .u8 (x.l : Int), .int .u16 (x.s : Int), .int .u16 (x.m : Int)]
def nbC (x : Nat × Nat) : List Value := [.int .i64 (x.1 : Int), .pointer (some ⟨x.2, 0, none⟩)]
structure Eng where
  id : Nat
  own : List Hm
  f : Mk
  c : Nat
  L : List E
  nb : List (Nat × Lk.L)
  ch : List Ro
  bad : Nat
  st : Nat
  fu : Nat
  nr : Nat
  he : Nat
  due : Bool
  lost : List (Nat × Nat)
  rq : List Pt
structure Mem where
  qs : Nat
  qr : Nat
  vo : Value
  vL : Value
  vn : Value
  vc : Value
  vl : Value
  vr : Value
  ls : List Nat
def Mem.X (m : Mem) (q : Nat) : Nat → Prop := fun k => k = q ∨ k = m.qs ∨ k = m.qr ∨ k ∈ m.ls ∨ m.vo.ownBlock = some k ∨ m.vL.ownBlock = some k ∨ m.vn.ownBlock = some k ∨ m.vc.ownBlock = some k ∨ m.vl.ownBlock = some k ∨ m.vr.ownBlock = some k
def Eng.row (e : Eng) (m : Mem) : Array Value := #[.int .i64 (e.id : Int), m.vo, .pointer (some ⟨m.qs, 0, none⟩), .pointer (some ⟨m.qr, 0, none⟩), m.vn, m.vc, .int .i64 (e.bad : Int), .int .i64 (e.st : Int), .int .i64 (e.fu : Int), .int .i64 (e.nr : Int), .int .u64 (e.he : Int), .bool e.due, m.vl, m.vr]
structure EngP (lo : Nat) (w : World) (e : Eng) (m : Mem) : Prop where
  own : GOwn 134 3 Hm.cl w lo m.vo e.own
  src : SrcAt lo w m.qs e.f e.c
  rts : RtsAt lo w m.qr e.L m.vL
  nbs : GOwn 121 2 nbC w lo m.vn (List.zip (e.nb.map (·.1)) m.ls)
  lsl : m.ls.length = e.nb.length
  lks : ∀ x ∈ List.zip e.nb m.ls, lo ≤ x.2 ∧ LkAt w x.2 x.1.2
  nd : m.ls.Nodup
  ch : GOwn 40 5 Ro.cl w lo m.vc e.ch
  lost : GOwn 30 2 clP w lo m.vl e.lost
  rq : GOwn 32 7 Pt.cl w lo m.vr e.rq
  tab : Lk.Tab w
  lo0 : 0 < lo
structure EngAt (lo : Nat) (w : World) (q : Nat) (e : Eng) (m : Mem) : Prop where
  row : w.heap[q]? = some (.cells (e.row m) 95 (0, 0))
  le : lo ≤ q
  p : EngP lo w e m
theorem EngP.lk {lo : Nat} {w : World} {e : Eng} {m : Mem} (h : EngP lo w e m) {k : Nat} (hk : k ∈ m.ls) : ∃ l, lo ≤ k ∧ LkAt w k l := by
  obtain ⟨i, hi, rfl⟩ := List.getElem_of_mem hk
  have hi2 : i < e.nb.length := by rw [← h.lsl]; exact hi
  have hz : i < (List.zip e.nb m.ls).length := by rw [List.length_zip]; omega
  have := h.lks _ (List.getElem_mem hz)
  rw [List.getElem_zip] at this
  exact ⟨_, this⟩
theorem EngAt.lt {lo : Nat} {w : World} {q : Nat} {e : Eng} {m : Mem} (h : EngAt lo w q e m) : q < w.heap.size := (Array.getElem?_eq_some_iff.1 h.row).1
theorem EngAt.los {lo : Nat} {w : World} {q : Nat} {e : Eng} {m : Mem} (h : EngAt lo w q e m) : lo ≤ w.heap.size := Nat.le_trans h.le (Nat.le_of_lt h.lt)
theorem gfr {α : Type} {t : TypeId} {k : Nat} {cl : α → List Value} {w w' : World} {B : Nat} {v : Value} {l : List α} {Y : Nat → Prop} (h : GOwn t k cl w B v l) (F : Fr Y w w') (hy : ∀ b, v.ownBlock = some b → ¬ Y b) : GOwn t k cl w' B v l := by
  rcases h with ⟨h0, h1 | ⟨g, cap, cur, hv, hB, hg, h2⟩⟩
  · exact ⟨h0, Or.inl h1⟩
  · exact ⟨h0, Or.inr ⟨g, cap, cur, hv, hB, F.row hg (hy g (by rw [hv]; rfl)), h2⟩⟩
theorem gtop {α : Type} {t : TypeId} {k : Nat} {cl : α → List Value} {w : World} {B B' : Nat} {v : Value} {l : List α} (h : GOwn t k cl w B v l) (hb : B' ≤ B) : GOwn t k cl w B' v l := by
  rcases h with ⟨h0, h1 | ⟨g, cap, cur, hv, hB, hg, h2⟩⟩
  · exact ⟨h0, Or.inl h1⟩
  · exact ⟨h0, Or.inr ⟨g, cap, cur, hv, Nat.le_trans hb hB, hg, h2⟩⟩
theorem mapfr {w w' : World} {b c : Nat} {f : Mk} (h : Src.MapAt w b f c) (hb : w'.heap[b]? = w.heap[b]?) : Src.MapAt w' b f c := by
  obtain ⟨D, ⟨es, clock, h1, F, h2⟩, h3⟩ := h
  exact ⟨D, ⟨es, clock, hb.trans h1, F, h2⟩, h3⟩
theorem srcfr {lo : Nat} {w w' : World} {q : Nat} {f : Mk} {c : Nat} {Y : Nat → Prop} (h : SrcAt lo w q f c) (F : Fr Y w w') (hq : ¬ Y q) (hm : ∀ b es cl, w.heap[b]? = some (.map es cl) → ¬ Y b) : SrcAt lo w' q f c := by
  obtain ⟨hl, v, hr, hv⟩ := h
  refine ⟨hl, v, F.row hr hq, ?_⟩
  rcases hv with hv | ⟨b, h1, h2, h3⟩
  · exact Or.inl hv
  · obtain ⟨es, cl, e2⟩ := h3.isMap
    exact Or.inr ⟨b, h1, h2, mapfr h3 (F.block b (Array.getElem?_eq_some_iff.1 e2).1 (hm b es cl e2))⟩
theorem tabfr {lo : Nat} {w w' : World} (h : Lk.Tab w) {Y : Nat → Prop} (F : Fr Y w w') (h0 : ¬ Y 0) : Lk.Tab w' := Lk.tab_keep h (F.block 0 (Lk.tab_size h) h0)
theorem EngP.fr {lo : Nat} {w w' : World} {e : Eng} {m : Mem} {Y : Nat → Prop} {q : Nat} (h : EngP lo w e m) (F : Fr Y w w') (hx : ∀ k, k ≠ q → m.X q k → ¬ Y k) (hq : m.qs ≠ q ∧ m.qr ≠ q ∧ q ∉ m.ls ∧ m.vo.ownBlock ≠ some q ∧ m.vL.ownBlock ≠ some q ∧ m.vn.ownBlock ≠ some q ∧ m.vc.ownBlock ≠ some q ∧ m.vl.ownBlock ≠ some q ∧ m.vr.ownBlock ≠ some q) (hm : ∀ b es cl, w.heap[b]? = some (.map es cl) → ¬ Y b) (h0 : ¬ Y 0) : EngP lo w' e m := by
  obtain ⟨q1, q2, q3, q4, q5, q6, q7, q8, q9⟩ := hq
  have ne : ∀ {v : Value} {b : Nat}, v.ownBlock ≠ some q → v.ownBlock = some b → b ≠ q := fun h1 h2 e => h1 (e ▸ h2)
  refine ⟨gfr h.own F fun b hb => hx b (ne q4 hb) ?_, srcfr h.src F (hx _ q1 ?_) hm, h.rts.fr F (hx _ q2 ?_) (fun b hb => hx b (ne q5 hb) ?_), gfr h.nbs F fun b hb => hx b (ne q6 hb) ?_, h.lsl, fun x hx' => ?_, h.nd, gfr h.ch F fun b hb => hx b (ne q7 hb) ?_, gfr h.lost F fun b hb => hx b (ne q8 hb) ?_, gfr h.rq F fun b hb => hx b (ne q9 hb) ?_, tabfr (lo := lo) h.tab F h0, h.lo0⟩
  · exact .inr (.inr (.inr (.inr (.inl hb))))
  · exact .inr (.inl rfl)
  · exact .inr (.inr (.inl rfl))
  · exact .inr (.inr (.inr (.inr (.inr (.inl hb)))))
  · exact .inr (.inr (.inr (.inr (.inr (.inr (.inl hb))))))
  · obtain ⟨h2, h3⟩ := h.lks x hx'
    have hb : x.2 ∈ m.ls := (List.of_mem_zip (a := x.1) (b := x.2) hx').2
    exact ⟨h2, h3.keep (F.block x.2 h3.lt (hx x.2 (fun e => q3 (e ▸ hb)) (.inr (.inr (.inr (.inl hb))))))⟩
  · exact .inr (.inr (.inr (.inr (.inr (.inr (.inr (.inl hb)))))))
  · exact .inr (.inr (.inr (.inr (.inr (.inr (.inr (.inr (.inl hb))))))))
  · exact .inr (.inr (.inr (.inr (.inr (.inr (.inr (.inr (.inr hb))))))))
theorem EngP.apart {lo : Nat} {w : World} {q : Nat} {e : Eng} {m : Mem} {r : Array Value} (h : EngP lo w e m) (row : w.heap[q]? = some (.cells r 95 (0, 0))) : m.qs ≠ q ∧ m.qr ≠ q ∧ q ∉ m.ls ∧ m.vo.ownBlock ≠ some q ∧ m.vL.ownBlock ≠ some q ∧ m.vn.ownBlock ≠ some q ∧ m.vc.ownBlock ≠ some q ∧ m.vl.ownBlock ≠ some q ∧ m.vr.ownBlock ≠ some q := by
  obtain ⟨-, v, hr, -⟩ := h.src
  refine ⟨row_ne hr row (by decide), row_ne h.rts.row row (by decide), fun hm => ?_, h.own.ne row (by decide), GOwn.ne (t := 173) (k := 7) (cl := E.cl) h.rts.own row (by decide), h.nbs.ne row (by decide), h.ch.ne row (by decide), h.lost.ne row (by decide), h.rq.ne row (by decide)⟩
  obtain ⟨l, -, h3⟩ := h.lk hm
  exact row_ne h3 row (by decide) rfl
theorem EngAt.apart {lo : Nat} {w : World} {q : Nat} {e : Eng} {m : Mem} (h : EngAt lo w q e m) : m.qs ≠ q ∧ m.qr ≠ q ∧ q ∉ m.ls ∧ m.vo.ownBlock ≠ some q ∧ m.vL.ownBlock ≠ some q ∧ m.vn.ownBlock ≠ some q ∧ m.vc.ownBlock ≠ some q ∧ m.vl.ownBlock ≠ some q ∧ m.vr.ownBlock ≠ some q := h.p.apart h.row
theorem EngAt.put {lo : Nat} {w : World} {q : Nat} {e' : Eng} {m' : Mem} {r : Array Value} (row : w.heap[q]? = some (.cells r 95 (0, 0))) (le : lo ≤ q) (p : EngP lo w e' m') (i : Nat) (v : Value) (hr : r.setIfInBounds i v = e'.row m') : EngAt lo (w.setCell ⟨q, i, none⟩ v) q e' m' := by
  have F : Fr (fun k => k = q) w (w.setCell ⟨q, i, none⟩ v) := Fr.grown (grown_setCell w q i v) (fun k e => (Option.some.inj e).symm)
  have ap := p.apart row
  refine ⟨by rw [heap_setCell_same w q i _ 95 v row, hr], le, p.fr (q := q) F (fun k hk _ e => hk e) ap (fun b es cl hb e => ?_) (fun e => by have := p.lo0; omega)⟩
  subst e
  rw [row] at hb; cases hb
theorem EngAt.fr {lo : Nat} {w w' : World} {q : Nat} {e : Eng} {m : Mem} {Y : Nat → Prop} (h : EngAt lo w q e m) (F : Fr Y w w') (hx : ∀ k, m.X q k → ¬ Y k) (hm : ∀ b es cl, w.heap[b]? = some (.map es cl) → ¬ Y b) (h0 : ¬ Y 0) : EngAt lo w' q e m :=
  ⟨F.row h.row (hx q (.inl rfl)), h.le, h.p.fr F (fun k _ => hx k) h.apart hm h0⟩
theorem EngAt.step {lo : Nat} {w w' : World} {q : Nat} {e : Eng} {m : Mem} (h : EngAt lo w q e m) (B : Below w.heap.size w w') : EngAt lo w' q e m :=
  h.fr (Y := fun _ => False) (Fr.of B) (fun _ _ h => h) (fun _ _ _ _ h => h) (fun h => h)
theorem EngAt.x_lt {lo : Nat} {w : World} {q : Nat} {e : Eng} {m : Mem} (h : EngAt lo w q e m) {k : Nat} (hk : m.X q k) : lo ≤ k ∧ k < w.heap.size ∧ ∃ x t, w.heap[k]? = some (.cells x t (0, 0)) := by
  have f : ∀ {x : Array Value} {t : TypeId}, w.heap[k]? = some (.cells x t (0, 0)) → k < w.heap.size ∧ ∃ x t, w.heap[k]? = some (.cells x t (0, 0)) := fun hh => ⟨(Array.getElem?_eq_some_iff.1 hh).1, _, _, hh⟩
  have g : ∀ {α : Type} {t : TypeId} {n : Nat} {cl : α → List Value} {v : Value} {l : List α}, GOwn t n cl w lo v l → v.ownBlock = some k → lo ≤ k ∧ k < w.heap.size ∧ ∃ x t, w.heap[k]? = some (.cells x t (0, 0)) := fun hg e => by
    obtain ⟨h1, cur, h2⟩ := hg.lt e
    exact ⟨h1, f h2⟩
  rcases hk with rfl | rfl | rfl | hk | hk | hk | hk | hk | hk | hk
  · exact ⟨h.le, f h.row⟩
  · obtain ⟨h1, v, hr, -⟩ := h.p.src; exact ⟨h1, f hr⟩
  · exact ⟨h.p.rts.le, f h.p.rts.row⟩
  · obtain ⟨l, h2, h3⟩ := h.p.lk hk
    exact ⟨h2, f h3⟩
  · exact g h.p.own hk
  · exact g (t := 173) (n := 7) (cl := E.cl) h.p.rts.own hk
  · exact g h.p.nbs hk
  · exact g h.p.ch hk
  · exact g h.p.lost hk
  · exact g h.p.rq hk
structure Ef (lo : Nat) (X : Nat → Prop) (w w' : World) : Prop where
  below : Below lo w w'
  cells : ∀ (k : Nat) (x : Array Value) (t : TypeId) (fr : Nat × Nat), w.heap[k]? = some (Obj.cells x t fr) → t ≠ 167 → ¬ X k → w'.heap[k]? = some (Obj.cells x t fr)
theorem Ef.refl (lo : Nat) (X : Nat → Prop) (w : World) : Ef lo X w w := ⟨Below.refl _ _, fun _ _ _ _ h _ _ => h⟩
theorem Ef.of {lo : Nat} {X : Nat → Prop} {w w' : World} (B : Below w.heap.size w w') (hl : lo ≤ w.heap.size) : Ef lo X w w' := ⟨B.mono hl, fun i _ _ _ e _ _ => (B.block i (Array.getElem?_eq_some_iff.1 e).1).trans e⟩
theorem Ef.frm {lo : Nat} {X Y : Nat → Prop} {w w' : World} (F : Fr Y w w') (hl : lo ≤ w.heap.size) (h1 : ∀ k, Y k → lo ≤ k) (h2 : ∀ k, Y k → X k) : Ef lo X w w' := ⟨F.below hl h1, fun i _ _ _ e _ hx => F.row e (fun h => hx (h2 i h))⟩
theorem Ef.trans {lo : Nat} {X Y : Nat → Prop} {a b c : World} (h : Ef lo X a b) (h' : Ef lo Y b c) (hy : ∀ k, Y k → X k ∨ a.heap.size ≤ k) : Ef lo X a c :=
  ⟨h.below.trans h'.below, fun i x t fr e ht hx => h'.cells i x t fr (h.cells i x t fr e ht hx) ht fun hi => by
    rcases hy i hi with h1 | h1
    · exact hx h1
    · have := (Array.getElem?_eq_some_iff.1 e).1; omega⟩
def ES (lo : Nat) (w : World) (q : Nat) (m : Mem) (e' : Eng) (w' : World) : Prop := ∃ m', EngAt lo w' q e' m' ∧ Ef lo (m.X q) w w' ∧ (∀ k, m'.X q k → m.X q k ∨ w.heap.size ≤ k) ∧ m'.ls = m.ls
theorem ES.of {lo : Nat} {w w' : World} {q : Nat} {e : Eng} {m : Mem} (h : EngAt lo w q e m) (B : Below w.heap.size w w') : ES lo w q m e w' := ⟨m, h.step B, Ef.of B h.los, fun _ h => Or.inl h, rfl⟩
theorem ES.trans {lo : Nat} {w w1 w2 : World} {q : Nat} {e2 : Eng} {m m1 : Mem} (h : Ef lo (m.X q) w w1) (hg : ∀ k, m1.X q k → m.X q k ∨ w.heap.size ≤ k) (hs : w.heap.size ≤ w1.heap.size) (h' : ES lo w1 q m1 e2 w2) (hl : m1.ls = m.ls := by rfl) : ES lo w q m e2 w2 := by
  obtain ⟨m2, a, b, c, d⟩ := h'
  refine ⟨m2, a, h.trans b hg, fun k hk => ?_, d.trans hl⟩
  rcases c k hk with h1 | h1
  · exact hg k h1
  · exact .inr (Nat.le_trans hs h1)
end Go.Proofs.YtjbogjbopgcbhaaGreatDoor.Eg
namespace Go.Proofs.YtjbogjbopgcbhaaGreatDoor.InN
open Pre Ser
open Go.Proofs.YtjbogjbopgcbhaaGreatDoor.Rts (GOwn GOwn.form clP)
open Go.Proofs.YtjbogjbopgcbhaaGreatDoor.Rts (shift_list grow_list run_copy_rowk grown_setRow alloc_size)
open Go.Proofs.YtjbogjbopgcbhaaGreatDoor.Eg (nbC)
open Go.ChangeShapes Go.WideShapes Go.ChangeAt Go.RowKit
set_option maxRecDepth 8000
set_option linter.unusedVariables false
set_option linter.unusedSimpArgs false
theorem rcl_len (r : Nat × Nat) : (nbC r).length = 2 := rfl
theorem rcl_one1 (r : Nat × Nat) : ∀ u ∈ nbC r, u.oneCell' = true := by
  intro u hu
  simp [nbC] at hu
  rcases hu with rfl | rfl <;> rfl
theorem rflat_len (rs : List (Nat × Nat)) : (rs.flatMap nbC).length = rs.length * 2 := by
  induction rs with
  | nil => rfl
  | cons r rs ih => simp only [List.flatMap_cons, List.length_append, rcl_len, ih, List.length_cons]; omega
theorem rflat_take (rs : List (Nat × Nat)) (k : Nat) : (rs.flatMap nbC).take (k * 2) = (rs.take k).flatMap nbC := by
  induction rs generalizing k with
  | nil => simp
  | cons r rs ih =>
    cases k with
    | zero => simp
    | succ k =>
      simp only [List.flatMap_cons, List.take_succ_cons]
      rw [List.take_append, rcl_len, show (k + 1) * 2 - 2 = k * 2 by omega, ih, List.take_of_length_le (by rw [rcl_len]; omega)]
theorem rflat_drop (rs : List (Nat × Nat)) (k : Nat) : (rs.flatMap nbC).drop (k * 2) = (rs.drop k).flatMap nbC := by
  induction rs generalizing k with
  | nil => simp
  | cons r rs ih =>
    cases k with
    | zero => simp
    | succ k =>
      simp only [List.flatMap_cons, List.drop_succ_cons]
      rw [List.drop_append, rcl_len, show (k + 1) * 2 - 2 = k * 2 by omega, ih, List.drop_of_length_le (by rw [rcl_len]; omega)]
      rfl
theorem rcl_one (rs : List (Nat × Nat)) : ∀ u ∈ rs.flatMap nbC, u.oneCell' = true := by
  intro u hu
  obtain ⟨r, _, hr⟩ := List.mem_flatMap.1 hu
  exact rcl_one1 r u hr
def EOwn (w : World) (B : Nat) (v : Value) (rs : List (Nat × Nat)) : Prop := GOwn 121 2 nbC w B v rs
theorem EOwn.form {w : World} {B : Nat} {v : Value} {rs : List (Nat × Nat)} (h : EOwn w B v rs) : ∃ A c, v = .slice A rs.length c ∧ True ∧ True := by
  obtain ⟨A, c, e, -⟩ := GOwn.form h (fun _ => rfl)
  exact ⟨A, c, e, trivial, trivial⟩
theorem info43 : (Tryz.prog.info? 121).map (fun i => (i.zero, i.size, i.bytes)) = some (some (.agg #[.int .i64 0, .pointer none]), 2, 16) := by kernel_rfl
def InsSaid (w : World) (B : Nat) (v : Value) (rs : List (Nat × Nat)) (e : Ending) (w' : World) : Prop := ∃ v', e = .returned v' ∧ EOwn w' B v' rs ∧ w.grownBy w' v.ownBlock ∧ (v'.ownBlock = v.ownBlock ∨ v'.ownBlock = some w.heap.size)
theorem flat_ins (rs : List (Nat × Nat)) (r : Nat × Nat) (i : Nat) : (rs.take i ++ r :: rs.drop i).flatMap nbC = (rs.take i).flatMap nbC ++ (nbC r) ++ (rs.drop i).flatMap nbC := by
  simp only [List.flatMap_append, List.flatMap_cons, List.append_assoc]
theorem len_ins (rs : List (Nat × Nat)) (r : Nat × Nat) (i : Nat) (hi : i ≤ rs.length) : (rs.take i ++ r :: rs.drop i).length = rs.length + 1 := by
  simp only [List.length_append, List.length_cons, List.length_take, List.length_drop]; omega
theorem ins_end (w : World) (B : Nat) (v : Value) (rs : List (Nat × Nat)) (r : Nat × Nat) (vb : Nat) (hown : EOwn w B v rs) (hvb : w.heap[vb]? = some (.cells (nbC r).toArray 121 (0, 0))) (hlen : rs.length ≤ 1000) (hB : B ≤ w.heap.size) :
    Calls Tryz.prog 79 #[v, .int .i64 (rs.length : Int), .slice (some ⟨vb, 0, none⟩) 1 1] w (InsSaid w B v (rs ++ [r])) := by
  obtain ⟨i0, hi, hz0, hz1, hz2⟩ := info_parts info43
  obtain ⟨A, c, hv, _, _⟩ := hown.form
  have HO := Lib.hid hown
  have HI := Lib.hid (And.intro hi (And.intro hz0 (And.intro hz1 hz2)))
  have hn : ∀ j u, (nbC r)[j]? = some u → w.cell? ((⟨vb, 0, none⟩ : Addr).add j) = some u := fun j u hj => by
    rw [show (⟨vb, 0, none⟩ : Addr).add j = ⟨vb, j, none⟩ by unfold Addr.add; split <;> simp_all, cell_of_row _ _ j _ 121 (0, 0) hvb, ← hj]
    simp
  have HN := Lib.hid hn
  clear hi hz0 hz1 hz2 hown hvb hn
  obtain ⟨n, hn⟩ : ∃ n, n = rs.length := ⟨_, rfl⟩
  rw [← hn] at hv hlen ⊢
  have HL := Lib.hid hn
  clear hn
  have hc : n ≤ c := by
    rcases HO.out.2 with ⟨h1, h2⟩ | ⟨g, cap, cur, h1, _, _, h2, _⟩
    · rw [HL.out]; omega
    · rw [hv] at h1; injection h1 with _ _ h3; rw [HL.out, h3]; exact h2
  subst hv
  by_cases hcn : c = n
  · subst c
    go_enter Tryz.func79, Tryz.ntmps79
    go_wp2_with (at_builtin; refine wpList_append_own_at _ rfl _ _ 91 rfl B 121 i0 _ 2 16 Tryz.underlying91 HI.out.1 HI.out.2.1 HI.out.2.2.1 HI.out.2.2.2 rfl (by decide) (.slice A n n) rs.length (rs.flatMap nbC) rfl HO.out ⟨vb, 0, none⟩ 1 1 (nbC r) rfl rfl HN.out (rcl_one1 r) (by have := HL.out; unfold maxLen; omega) (by have := HL.out; omega) hB ?_; intro v' w' h1 h2 _ h4; have HZ := Lib.hid (And.intro h1 (And.intro h2 h4)); clear h1 h2 h4)
    go_ret
    refine ⟨v', rfl, ?_, HZ.out.2.1, HZ.out.2.2⟩
    have := HZ.out.1
    unfold EOwn GOwn
    rw [List.length_append, List.flatMap_append]
    simpa using this
  · go_enter Tryz.func79, Tryz.ntmps79
    go_wp2_with (at_builtin; refine wpList_append_own_at _ rfl _ _ 91 rfl B 121 i0 _ 2 16 Tryz.underlying91 HI.out.1 HI.out.2.1 HI.out.2.2.1 HI.out.2.2.2 rfl (by decide) (.slice A n c) rs.length (rs.flatMap nbC) rfl HO.out ⟨vb, 0, none⟩ 1 1 (nbC r) rfl rfl HN.out (rcl_one1 r) (by have := HL.out; unfold maxLen; omega) (by have := HL.out; omega) hB ?_; intro v' w' h1 h2 _ h4; have HZ := Lib.hid (And.intro h1 (And.intro h2 h4)); clear h1 h2 h4)
    go_ret
    refine ⟨v', rfl, ?_, HZ.out.2.1, HZ.out.2.2⟩
    have := HZ.out.1
    unfold EOwn GOwn
    rw [List.length_append, List.flatMap_append]
    simpa using this
theorem ins_room (w : World) (B g cap i : Nat) (cur : List Value) (rs : List (Nat × Nat)) (r : Nat × Nat) (vb : Nat) (hg : w.heap[g]? = some (.cells cur.toArray 121 (0, 0))) (hBg : B ≤ g) (hcap : cap ≤ maxLen) (hsz : cur.length = cap * 2) (htk : cur.take (rs.length * 2) = rs.flatMap nbC)
    (hvb : w.heap[vb]? = some (.cells (nbC r).toArray 121 (0, 0))) (hne : vb ≠ g) (hi : i < rs.length) (hlen : rs.length ≤ 1000) (hroom : rs.length + 1 ≤ cap) :
    Calls Tryz.prog 79 #[.slice (some ⟨g, 0, none⟩) rs.length cap, .int .i64 (i : Int), .slice (some ⟨vb, 0, none⟩) 1 1] w (InsSaid w B (.slice (some ⟨g, 0, none⟩) rs.length cap) (rs.take i ++ r :: rs.drop i)) := by
  have hsize : (Tryz.prog.info? 121).map (·.size) = some 2 := by kernel_rfl
  obtain ⟨n, hn⟩ : ∃ n, rs.length = n := ⟨_, rfl⟩
  have hX : ((rs.take i).flatMap nbC).length = i * 2 := by rw [rflat_len, List.length_take]; omega
  have hD : ((rs.drop i).flatMap nbC).length = (n - i) * 2 := by rw [rflat_len, List.length_drop, hn]
  have hXD : (rs.take i).flatMap nbC ++ (rs.drop i).flatMap nbC = rs.flatMap nbC := by rw [← List.flatMap_append, List.take_append_drop]
  have hsl := shift_list ((rs.take i).flatMap nbC) (nbC r) ((rs.drop i).flatMap nbC) cur (by rw [hX, hD, hXD, ← htk]; congr 1; omega) (by rw [hX, hD, rcl_len, hsz]; omega)
  have hins := flat_ins rs r i
  have hlins := len_ins rs r i (Nat.le_of_lt hi)
  have h1D := rcl_one (rs.drop i)
  have h1r := rcl_one1 r
  have hDt : ∀ j u, ((rs.drop i).flatMap nbC)[j]? = some u → w.cell? ((⟨g, i * 2, none⟩ : Addr).add j) = some u := fun j u hj => by
    rw [Addr.add_lit, cell_of_row _ _ _ _ 121 (0, 0) hg]
    rw [← rflat_drop, List.getElem?_drop, ← htk, List.getElem?_take] at hj
    split at hj
    · simpa using hj
    · cases hj
  have hrt : ∀ j u, (nbC r)[j]? = some u → w.cell? ((⟨vb, 0, none⟩ : Addr).add j) = some u := fun j u hj => by
    rw [Addr.add_lit, Nat.zero_add, cell_of_row _ _ j _ 121 (0, 0) hvb, ← hj]
    simp
  rw [hX, hD, rcl_len, show i * 2 + 2 = (i + 1) * 2 by omega] at hsl
  generalize hDD : (rs.drop i).flatMap nbC = D at *
  rw [hn] at htk hi hlen hroom hlins ⊢
  have hsB : w.shape? g = some (121, cap * 2) := by unfold World.shape?; rw [hg]; simp [hsz]
  have hsA : w.shape? vb = some (121, 2) := by unfold World.shape?; rw [hvb]; rfl
  have hov : ∀ lb cb, (callFunc 118 #[.slice (some ⟨vb, 0, none⟩) 1 1, .slice (some ⟨g, (i + 1) * 2, none⟩) lb cb]).run Tryz.prog w = .ok (.value (.bool false)) w := fun lb cb => by
    rw [run_callFunc_extern Tryz.func118 (by kernel_rfl) (by kernel_rfl) (by kernel_rfl) (e := Extern.SlicesOverlaps.overlaps #[91, 91] #[4]) (by kernel_rfl),
      Lib.run_overlaps_apart w 91 4 121 Tryz.underlying91 2 Tryz.sizeOf121 ⟨vb, 0, none⟩ ⟨g, (i + 1) * 2, none⟩ 1 1 lb cb hne 121 121 2 (cap * 2) hsA hsB (by omega) (frozen_of_row w vb 0 _ 121 hvb) (frozen_of_row w vb 2 _ 121 hvb)]
    rfl
  have hcp1 : ∀ ty dc sc, (Builtin.copy_ #[91, 91] ty #[.slice (some ⟨g, (i + 1) * 2, none⟩) (n + 1 - (i + 1)) dc, .slice (some ⟨g, i * 2, none⟩) (n + 1 - i) sc]).run Tryz.prog w.drew = .ok (goInt (n - i : Nat)) (w.drew.setRow g (splice cur ((i + 1) * 2) D).toArray) := fun ty dc sc =>
    run_copy_rowk w.drew 91 91 ty 121 2 g ((i + 1) * 2) (n + 1 - (i + 1)) dc ⟨g, i * 2, none⟩ (n + 1 - i) sc cur 121 D (n - i) Tryz.underlying91 hsize hg (by simp only [Nat.min_def]; split <;> omega) hD hDt (by rw [hD, hsz]; omega) h1D
  obtain ⟨W1, hW1⟩ : ∃ W1, W1 = w.drew.setRow g (splice cur ((i + 1) * 2) D).toArray := ⟨_, rfl⟩
  have hg1 : W1.heap[g]? = some (.cells (splice cur ((i + 1) * 2) D).toArray 121 (0, 0)) := by rw [hW1]; exact setRow_heap w.drew g _ _ 121 (0, 0) hg
  have hr1 : ∀ j u, (nbC r)[j]? = some u → W1.cell? ((⟨vb, 0, none⟩ : Addr).add j) = some u := fun j u hj => by
    rw [hW1, cell_setRow_other _ _ _ _ (by rw [Addr.add_lit]; exact hne)]
    exact hrt j u hj
  have hcp2 : ∀ ty dc, (Builtin.copy_ #[91, 91] ty #[.slice (some ⟨g, i * 2, none⟩) (n + 1 - i) dc, .slice (some ⟨vb, 0, none⟩) 1 1]).run Tryz.prog W1 = .ok (goInt (1 : Nat)) (W1.setRow g (splice (splice cur ((i + 1) * 2) D) (i * 2) (nbC r)).toArray) := fun ty dc =>
    run_copy_rowk W1 91 91 ty 121 2 g (i * 2) (n + 1 - i) dc ⟨vb, 0, none⟩ 1 1 _ 121 (nbC r) 1 Tryz.underlying91 hsize hg1 (by simp only [Nat.min_def]; split <;> omega) rfl hr1 (by rw [length_splice _ _ _ (by rw [hD, hsz]; omega), rcl_len, hsz]; omega) h1r
  rw [← hW1] at hcp1
  have hG : w.grownBy W1 (some g) := by rw [hW1]; exact ⟨rfl, rfl, rfl, (by rw [setRow_size]; exact Nat.le_refl _), fun k hk hne => setRow_other w.drew g k _ (fun e => hne (by rw [e]))⟩
  have hfin := setRow_heap W1 g _ (splice (splice cur ((i + 1) * 2) D) (i * 2) (nbC r)).toArray 121 (0, 0) hg1
  have hG2 := hG.trans (grown_setRow W1 g (splice (splice cur ((i + 1) * 2) D) (i * 2) (nbC r)).toArray)
  have HZ := Lib.hid (And.intro hsl (And.intro hins (And.intro hlins (And.intro hfin (And.intro hG2 (And.intro hcap (And.intro hBg hn)))))))
  have hin : i < n := hi
  have hin2 : ¬ ((i : Int) = (n : Int)) := by omega
  have hroom2 : ¬ ((cap : Int) < (n : Int) + 1) := by omega
  have hw1 : IntKind.i64.wrap ((i : Int) + 1) = (i : Int) + 1 := by rw [IntKind.wrap_i64]; omega
  have hw2 : IntKind.i64.wrap ((n : Int) + 1) = (n : Int) + 1 := by rw [IntKind.wrap_i64]; omega
  have mixed : Tryz.prog.follows Departure.mixedOrders = true := by kernel_rfl
  have hb1 : (0 : Int) ≤ (i : Int) + 1 := by omega
  have hle : i ≤ n := by omega
  have htn : ((i : Int) + 1).toNat = i + 1 := by omega
  have hb2 : ¬ (cap = i + 1) := by omega
  have hb4 : ¬ (cap = i) := by omega
  have hb3 : (i : Int) ≤ (n : Int) + 1 := by omega
  have hHS := Lib.hid (And.intro hsz (And.intro htk (And.intro hg (And.intro hvb (And.intro hX (And.intro hD (And.intro hXD (And.intro hDt hrt))))))))
  clear hsl hins hlins hfin hG2 hBg hsz htk hg hvb hX hD hXD hDt hrt hG hr1 hg1 hW1 h1D h1r hsA hsB hsize hDD
  obtain ⟨HD1, HD2⟩ := hHS.out.2.2.2.2
  clear HD1 HD2
  go_enter Tryz.func79, Tryz.ntmps79
  go_wp2_with (simp only [hov])
  go_region_law_o (refine step_copy_runI rfl _ _ 91 91 rfl (.slice (some ⟨g, (i + 1) * 2, none⟩) (n + 1 - (i + 1)) (cap - (i + 1))) (.slice (some ⟨g, i * 2, none⟩) (n + 1 - i) (cap - i)) (by simp [Act.eval, Act.put]) (by simp [Act.eval, Act.put]) (hcp1 _ _ _) ?_)
  go_wp2_with (at_builtin; refine wpList_copy_runI _ rfl _ _ 91 91 rfl (.slice (some ⟨g, i * 2, none⟩) (n + 1 - i) (cap - i)) (.slice (some ⟨vb, 0, none⟩) 1 1) rfl rfl (hcp2 _ _) ?_)
  go_ret
  refine ⟨.slice (some ⟨g, 0, none⟩) (n + 1) cap, rfl, ⟨?_, .inr ⟨g, cap, _, ?_, HZ.out.2.2.2.2.2.2.1, HZ.out.2.2.2.1, ?_, HZ.out.2.2.2.2.2.1, ?_, ?_⟩⟩, HZ.out.2.2.2.2.1, Or.inl rfl⟩
  · rw [rflat_len]
  · rw [HZ.out.2.2.1]
  · rw [HZ.out.2.2.1]; exact hroom
  · rw [List.size_toArray, HZ.out.1.2, hHS.out.1]
  · rw [HZ.out.2.2.1, HZ.out.2.1, ← HZ.out.1.1]
    congr 1
    have := HZ.out.2.2.2.2.2.2.2
    omega
theorem ins_grow (w : World) (B g cap i : Nat) (cur : List Value) (rs : List (Nat × Nat)) (r : Nat × Nat) (vb : Nat) (hg : w.heap[g]? = some (.cells cur.toArray 121 (0, 0))) (hB : B ≤ w.heap.size) (htk : cur.take (rs.length * 2) = rs.flatMap nbC)
    (hvb : w.heap[vb]? = some (.cells (nbC r).toArray 121 (0, 0))) (hi : i < rs.length) (hlen : rs.length ≤ 1000) (hcap : rs.length ≤ cap) (hroom : cap < rs.length + 1) :
    Calls Tryz.prog 79 #[.slice (some ⟨g, 0, none⟩) rs.length cap, .int .i64 (i : Int), .slice (some ⟨vb, 0, none⟩) 1 1] w (InsSaid w B (.slice (some ⟨g, 0, none⟩) rs.length cap) (rs.take i ++ r :: rs.drop i)) := by
  obtain ⟨i0, hi0, hz0, hz1, hz2⟩ := info_parts info43
  have hsize : (Tryz.prog.info? 121).map (·.size) = some 2 := by kernel_rfl
  obtain ⟨n, hn⟩ : ∃ n, rs.length = n := ⟨_, rfl⟩
  have hX : ((rs.take i).flatMap nbC).length = i * 2 := by rw [rflat_len, List.length_take]; omega
  have hD : ((rs.drop i).flatMap nbC).length = (n - i) * 2 := by rw [rflat_len, List.length_drop, hn]
  have hins := flat_ins rs r i
  have hlins := len_ins rs r i (Nat.le_of_lt hi)
  have h1D := rcl_one (rs.drop i)
  have h1r := rcl_one1 r
  have hgw : g < w.heap.size := (Array.getElem?_eq_some_iff.1 hg).1
  have hvw : vb < w.heap.size := (Array.getElem?_eq_some_iff.1 hvb).1
  have hXt : ∀ j u, ((rs.take i).flatMap nbC)[j]? = some u → w.cell? ((⟨g, 0, none⟩ : Addr).add j) = some u := fun j u hj => by
    rw [Addr.add_lit, Nat.zero_add, cell_of_row _ _ _ _ 121 (0, 0) hg]
    rw [← rflat_take, List.getElem?_take, ← htk, List.getElem?_take] at hj
    split at hj
    · split at hj
      · simpa using hj
      · cases hj
    · cases hj
  have hDt : ∀ j u, ((rs.drop i).flatMap nbC)[j]? = some u → w.cell? ⟨g, i * 2 + j, none⟩ = some u := fun j u hj => by
    rw [cell_of_row _ _ _ _ 121 (0, 0) hg]
    rw [← rflat_drop, List.getElem?_drop, ← htk, List.getElem?_take] at hj
    split at hj
    · simpa using hj
    · cases hj
  have hrt : ∀ j u, (nbC r)[j]? = some u → w.cell? ⟨vb, j, none⟩ = some u := fun j u hj => by
    rw [cell_of_row _ _ j _ 121 (0, 0) hvb, ← hj]
    simp
  rw [hn] at htk hi hlen hroom hlins hcap ⊢
  generalize hXX : (rs.take i).flatMap nbC = X at *
  generalize hDD : (rs.drop i).flatMap nbC = D at *
  have hold : (Builtin.firstCells i0.size i (.slice (some ⟨g, 0, none⟩) i cap)).run Tryz.prog w.drew = .ok X.toArray w.drew := by
    rw [hz1]
    exact run_firstCells_some w.drew 2 i ⟨g, 0, none⟩ i cap X hX hXt
  have hik : i + (n + 1 - i) = n + 1 := by omega
  obtain ⟨z, hz⟩ : ∃ z : Value, z = .agg #[.int .i64 0, .pointer none] := ⟨_, rfl⟩
  have hzc : z.cells.size = 2 := by rw [hz]; rfl
  rw [← hz] at hz0
  have hkk : (n : Int) + 1 - (i : Int) = ((n + 1 - i : Nat) : Int) := by omega
  have hrz : ∀ ty, (Builtin.append_ #[91, 3] ty #[.slice (some ⟨g, 0, none⟩) i cap, .int .i64 ((n : Int) + 1 - (i : Int))]).run Tryz.prog w =
      .ok (.slice (some ⟨w.heap.size, 0, none⟩) (n + 1) (grownCap w (n + 1) cap 121)) (w.drew.alloc (.cells (X.toArray ++ Builtin.zeroCells z.cells (n + 1 - i) ++ Builtin.zeroCells z.cells (grownCap w (n + 1) cap 121 - (n + 1))) 121)) := fun ty => by
    have h := Lib.run_append_grow_zeros w 91 3 ty 121 i0 _ .i64 .i64 Tryz.underlying91 Tryz.underlying3 hi0 hz0 (some ⟨g, 0, none⟩) i cap X hold (n + 1 - i) (by omega) (by omega) (by omega) (by omega) (by rw [hz2]; omega) (by rw [hz2, hik]; exact growslice_fits (by omega) (by omega))
    rw [hik] at h
    rw [hkk]
    exact h
  obtain ⟨G, hG⟩ : ∃ G, G = grownCap w (n + 1) cap 121 := ⟨_, rfl⟩
  obtain ⟨Z, hZZ⟩ : ∃ Z : List Value, Z = (Builtin.zeroCells z.cells (n + 1 - i)).toList ++ (Builtin.zeroCells z.cells (G - (n + 1))).toList := ⟨_, rfl⟩
  have hGn : n + 1 ≤ G := by rw [hG]; exact grownCap_ge w _ _ _
  have hGm : G ≤ maxLen := by rw [hG]; exact grownCap_le_maxLen w (n + 1) cap 121 (by unfold maxLen; omega)
  have hG63 : G ≤ 9223372036854775807 := by unfold maxLen at hGm; omega
  have hZl : Z.length = (G - i) * 2 := by
    rw [hZZ, List.length_append, Array.length_toList, Array.length_toList, size_zeroCells, size_zeroCells, hzc]; omega
  have hrow : X.toArray ++ Builtin.zeroCells z.cells (n + 1 - i) ++ Builtin.zeroCells z.cells (G - (n + 1)) = (X ++ Z).toArray := by
    rw [hZZ]
    apply Array.ext'
    simp
  rw [← hG, hrow] at hrz
  have hgl := grow_list X (nbC r) D Z (by rw [hD, hZl, rcl_len]; omega)
  rw [hX, hD, rcl_len, show i * 2 + 2 = (i + 1) * 2 by omega] at hgl
  obtain ⟨W1, hW1⟩ : ∃ W1, W1 = w.drew.alloc (.cells (X ++ Z).toArray 121) := ⟨_, rfl⟩
  rw [← hW1] at hrz
  have hN1 : W1.heap[w.heap.size]? = some (.cells (X ++ Z).toArray 121 (0, 0)) := by rw [hW1]; exact heap_alloc_new w.drew _
  have hold1 : ∀ k, k < w.heap.size → W1.heap[k]? = w.heap[k]? := fun k hk => by rw [hW1]; exact heap_alloc_old w.drew _ hk
  have hs1 : W1.heap.size = w.heap.size + 1 := by rw [hW1]; exact alloc_size _ _
  have hcpA : ∀ ty dc, (Builtin.copy_ #[91, 91] ty #[.slice (some ⟨w.heap.size, i * 2, none⟩) (n + 1 - i) dc, .slice (some ⟨vb, 0, none⟩) 1 1]).run Tryz.prog W1 = .ok (goInt (1 : Nat)) (W1.setRow w.heap.size (splice (X ++ Z) (i * 2) (nbC r)).toArray) := fun ty dc =>
    run_copy_rowk W1 91 91 ty 121 2 w.heap.size (i * 2) (n + 1 - i) dc ⟨vb, 0, none⟩ 1 1 _ 121 (nbC r) 1 Tryz.underlying91 hsize hN1 (by simp only [Nat.min_def]; split <;> omega) rfl
      (fun j u hj => by rw [Addr.add_lit, Nat.zero_add, World.cell?_of_block (hold1 vb hvw)]; exact hrt j u hj) (by rw [List.length_append, hX, hZl, rcl_len]; omega) h1r
  obtain ⟨W2, hW2⟩ : ∃ W2, W2 = W1.setRow w.heap.size (splice (X ++ Z) (i * 2) (nbC r)).toArray := ⟨_, rfl⟩
  rw [← hW2] at hcpA
  have hN2 : W2.heap[w.heap.size]? = some (.cells (splice (X ++ Z) (i * 2) (nbC r)).toArray 121 (0, 0)) := by rw [hW2]; exact setRow_heap W1 _ _ _ 121 (0, 0) hN1
  have hold2 : ∀ k, k < w.heap.size → W2.heap[k]? = w.heap[k]? := fun k hk => by rw [hW2, setRow_other _ _ _ _ (by omega)]; exact hold1 k hk
  have hl2 : (splice (X ++ Z) (i * 2) (nbC r)).length = G * 2 := by rw [length_splice _ _ _ (by rw [List.length_append, hX, hZl, rcl_len]; omega), List.length_append, hX, hZl]; omega
  have hcpB : ∀ ty dc sc, (Builtin.copy_ #[91, 91] ty #[.slice (some ⟨w.heap.size, (i + 1) * 2, none⟩) (n + 1 - (i + 1)) dc, .slice (some ⟨g, i * 2, none⟩) (n - i) sc]).run Tryz.prog W2.drew = .ok (goInt (n - i : Nat)) (W2.drew.setRow w.heap.size (splice (splice (X ++ Z) (i * 2) (nbC r)) ((i + 1) * 2) D).toArray) := fun ty dc sc =>
    run_copy_rowk W2.drew 91 91 ty 121 2 w.heap.size ((i + 1) * 2) (n + 1 - (i + 1)) dc ⟨g, i * 2, none⟩ (n - i) sc _ 121 D (n - i) Tryz.underlying91 hsize hN2 (by simp only [Nat.min_def]; split <;> omega) hD
      (fun j u hj => by rw [Addr.add_lit]; exact (World.cell?_of_block (a := ⟨g, i * 2 + j, none⟩) (hold2 g hgw)).trans (hDt j u hj)) (by rw [hl2, hD]; omega) h1D
  have hN3 := setRow_heap W2.drew w.heap.size _ (splice (splice (X ++ Z) (i * 2) (nbC r)) ((i + 1) * 2) D).toArray 121 (0, 0) hN2
  have hGB : w.grownBy (W2.drew.setRow w.heap.size (splice (splice (X ++ Z) (i * 2) (nbC r)) ((i + 1) * 2) D).toArray) (some g) := by
    refine ⟨by rw [hW2, hW1]; rfl, by rw [hW2, hW1]; rfl, by rw [hW2, hW1]; rfl, ?_, fun k hk _ => ?_⟩
    · rw [setRow_size]
      have : W2.heap.size = w.heap.size + 1 := by rw [hW2, setRow_size]; exact hs1
      show w.heap.size ≤ W2.heap.size
      omega
    · rw [setRow_other _ _ _ _ (by omega)]
      exact hold2 k hk
  have hcapn : cap = n := by omega
  have HZ := Lib.hid (And.intro hgl (And.intro hins (And.intro hlins (And.intro hN3 (And.intro hGB (And.intro hGm (And.intro hB (And.intro hX (And.intro hZl (And.intro hGn hD))))))))))
  clear hgl hins hlins hN3 hGB hGm hB hX hZl hold hik hz hzc hz0 hz1 hz2 hi0 hkk hG hZZ hrow hN1 hold1 hs1 hN2 hold2 hl2 hXX hDD hW1 hW2 hXt hDt hrt h1D h1r htk hg hvb hsize hD
  subst hcapn
  have hin2 : ¬ ((i : Int) = (cap : Int)) := by omega
  have hw1 : IntKind.i64.wrap ((i : Int) + 1) = (i : Int) + 1 := by rw [IntKind.wrap_i64]; omega
  have hw2 : IntKind.i64.wrap ((cap : Int) + 1) = (cap : Int) + 1 := by rw [IntKind.wrap_i64]; omega
  have mixed : Tryz.prog.follows Departure.mixedOrders = true := by kernel_rfl
  have hb1 : (0 : Int) ≤ (i : Int) + 1 := by omega
  have hle : i ≤ cap := by omega
  have htn : ((i : Int) + 1).toNat = i + 1 := by omega
  have hb2 : ¬ (G = i + 1) := by omega
  have hb4 : ¬ (cap = i) := by omega
  have hb5 : ¬ (G = i) := by omega
  have hb3 : (i : Int) ≤ (cap : Int) + 1 := by omega
  go_enter Tryz.func79, Tryz.ntmps79
  go_wp2_with (first
    | (at_builtin; refine Lib.wpList_append_run _ rfl _ _ _ _ rfl _ _ rfl rfl _ _ (hrz _) ?_)
    | (at_builtin; refine wpList_copy_runI _ rfl _ _ 91 91 rfl (.slice (some ⟨w.heap.size, i * 2, none⟩) (cap + 1 - i) (G - i)) (.slice (some ⟨vb, 0, none⟩) 1 1) rfl rfl (hcpA _ _) ?_))
  go_region_law_o (refine step_copy_runI rfl _ _ 91 91 rfl (.slice (some ⟨w.heap.size, (i + 1) * 2, none⟩) (cap + 1 - (i + 1)) (G - (i + 1))) (.slice (some ⟨g, i * 2, none⟩) (cap - i) (cap - i)) (by simp [Act.eval, Act.put]) (by simp [Act.eval, Act.put]) (hcpB _ _ _) ?_)
  go_wp2
  go_ret
  refine ⟨.slice (some ⟨w.heap.size, 0, none⟩) (cap + 1) G, rfl, ⟨?_, .inr ⟨w.heap.size, G, _, ?_, HZ.out.2.2.2.2.2.2.1, HZ.out.2.2.2.1, ?_, HZ.out.2.2.2.2.2.1, ?_, ?_⟩⟩, HZ.out.2.2.2.2.1, Or.inr rfl⟩
  · rw [rflat_len]
  · rw [HZ.out.2.2.1]
  · rw [HZ.out.2.2.1]; exact HZ.out.2.2.2.2.2.2.2.2.2.1
  · have h1 := HZ.out.2.2.2.2.2.2.2.1
    have h2 := HZ.out.2.2.2.2.2.2.2.2.1
    rw [List.size_toArray, HZ.out.1.2, List.length_append, h1, h2]
    omega
  · rw [HZ.out.2.2.1, HZ.out.2.1, ← HZ.out.1.1]
    congr 1
    omega
theorem ins_any (w : World) (B : Nat) (v : Value) (rs : List (Nat × Nat)) (r : Nat × Nat) (i vb : Nat) (hown : EOwn w B v rs) (hvb : w.heap[vb]? = some (.cells (nbC r).toArray 121 (0, 0))) (hne : v.ownBlock ≠ some vb) (hi : i ≤ rs.length) (hlen : rs.length ≤ 1000) (hB : B ≤ w.heap.size) :
    Calls Tryz.prog 79 #[v, .int .i64 (i : Int), .slice (some ⟨vb, 0, none⟩) 1 1] w (InsSaid w B v (rs.take i ++ r :: rs.drop i)) := by
  rcases Nat.lt_or_eq_of_le hi with h | h
  · rcases hown.2 with ⟨_, h0⟩ | ⟨g, cap, cur, rfl, hBg, hg, h1, h2, h3, h4⟩
    · have : rs.length = 0 := h0; omega
    · have hg' : w.heap[g]? = some (.cells cur.toList.toArray 121 (0, 0)) := hg
      by_cases hroom : rs.length + 1 ≤ cap
      · exact ins_room w B g cap i cur.toList rs r vb hg' hBg h2 (by simpa using h3) h4 hvb (fun e => hne (by rw [e]; rfl)) h hlen hroom
      · exact ins_grow w B g cap i cur.toList rs r vb hg' hB h4 hvb h hlen h1 (by omega)
  · subst h
    rw [List.take_length, List.drop_length]
    exact ins_end w B v rs r vb hown hvb hlen hB
end Go.Proofs.YtjbogjbopgcbhaaGreatDoor.InN
namespace Go.Proofs.YtjbogjbopgcbhaaGreatDoor.InP
open Pre Ser
open Go.Proofs.YtjbogjbopgcbhaaGreatDoor.Rts (GOwn GOwn.form clP)
open Go.Proofs.YtjbogjbopgcbhaaGreatDoor.Rts (shift_list grow_list run_copy_rowk grown_setRow alloc_size)
open Go.Proofs.YtjbogjbopgcbhaaGreatDoor.Eg (nbC)
open Go.ChangeShapes Go.WideShapes Go.ChangeAt Go.RowKit
set_option maxRecDepth 8000
set_option linter.unusedVariables false
set_option linter.unusedSimpArgs false
theorem rcl_len (r : Nat × Nat) : (clP r).length = 2 := rfl
theorem rcl_one1 (r : Nat × Nat) : ∀ u ∈ clP r, u.oneCell' = true := by
  intro u hu
  simp [clP] at hu
  rcases hu with rfl | rfl <;> rfl
theorem rflat_len (rs : List (Nat × Nat)) : (rs.flatMap clP).length = rs.length * 2 := by
  induction rs with
  | nil => rfl
  | cons r rs ih => simp only [List.flatMap_cons, List.length_append, rcl_len, ih, List.length_cons]; omega
theorem rflat_take (rs : List (Nat × Nat)) (k : Nat) : (rs.flatMap clP).take (k * 2) = (rs.take k).flatMap clP := by
  induction rs generalizing k with
  | nil => simp
  | cons r rs ih =>
    cases k with
    | zero => simp
    | succ k =>
      simp only [List.flatMap_cons, List.take_succ_cons]
      rw [List.take_append, rcl_len, show (k + 1) * 2 - 2 = k * 2 by omega, ih, List.take_of_length_le (by rw [rcl_len]; omega)]
theorem rflat_drop (rs : List (Nat × Nat)) (k : Nat) : (rs.flatMap clP).drop (k * 2) = (rs.drop k).flatMap clP := by
  induction rs generalizing k with
  | nil => simp
  | cons r rs ih =>
    cases k with
    | zero => simp
    | succ k =>
      simp only [List.flatMap_cons, List.drop_succ_cons]
      rw [List.drop_append, rcl_len, show (k + 1) * 2 - 2 = k * 2 by omega, ih, List.drop_of_length_le (by rw [rcl_len]; omega)]
      rfl
theorem rcl_one (rs : List (Nat × Nat)) : ∀ u ∈ rs.flatMap clP, u.oneCell' = true := by
  intro u hu
  obtain ⟨r, _, hr⟩ := List.mem_flatMap.1 hu
  exact rcl_one1 r u hr
def EOwn (w : World) (B : Nat) (v : Value) (rs : List (Nat × Nat)) : Prop := GOwn 30 2 clP w B v rs
theorem EOwn.form {w : World} {B : Nat} {v : Value} {rs : List (Nat × Nat)} (h : EOwn w B v rs) : ∃ A c, v = .slice A rs.length c ∧ True ∧ True := by
  obtain ⟨A, c, e, -⟩ := GOwn.form h (fun _ => rfl)
  exact ⟨A, c, e, trivial, trivial⟩
theorem info43 : (Tryz.prog.info? 30).map (fun i => (i.zero, i.size, i.bytes)) = some (some (.agg #[.int .u32 0, .int .u8 0]), 2, 8) := by kernel_rfl
def InsSaid (w : World) (B : Nat) (v : Value) (rs : List (Nat × Nat)) (e : Ending) (w' : World) : Prop := ∃ v', e = .returned v' ∧ EOwn w' B v' rs ∧ w.grownBy w' v.ownBlock ∧ (v'.ownBlock = v.ownBlock ∨ v'.ownBlock = some w.heap.size)
theorem flat_ins (rs : List (Nat × Nat)) (r : Nat × Nat) (i : Nat) : (rs.take i ++ r :: rs.drop i).flatMap clP = (rs.take i).flatMap clP ++ (clP r) ++ (rs.drop i).flatMap clP := by
  simp only [List.flatMap_append, List.flatMap_cons, List.append_assoc]
theorem len_ins (rs : List (Nat × Nat)) (r : Nat × Nat) (i : Nat) (hi : i ≤ rs.length) : (rs.take i ++ r :: rs.drop i).length = rs.length + 1 := by
  simp only [List.length_append, List.length_cons, List.length_take, List.length_drop]; omega
theorem ins_end (w : World) (B : Nat) (v : Value) (rs : List (Nat × Nat)) (r : Nat × Nat) (vb : Nat) (hown : EOwn w B v rs) (hvb : w.heap[vb]? = some (.cells (clP r).toArray 30 (0, 0))) (hlen : rs.length ≤ 1000) (hB : B ≤ w.heap.size) :
    Calls Tryz.prog 146 #[v, .int .i64 (rs.length : Int), .slice (some ⟨vb, 0, none⟩) 1 1] w (InsSaid w B v (rs ++ [r])) := by
  obtain ⟨i0, hi, hz0, hz1, hz2⟩ := info_parts info43
  obtain ⟨A, c, hv, _, _⟩ := hown.form
  have HO := Lib.hid hown
  have HI := Lib.hid (And.intro hi (And.intro hz0 (And.intro hz1 hz2)))
  have hn : ∀ j u, (clP r)[j]? = some u → w.cell? ((⟨vb, 0, none⟩ : Addr).add j) = some u := fun j u hj => by
    rw [show (⟨vb, 0, none⟩ : Addr).add j = ⟨vb, j, none⟩ by unfold Addr.add; split <;> simp_all, cell_of_row _ _ j _ 30 (0, 0) hvb, ← hj]
    simp
  have HN := Lib.hid hn
  clear hi hz0 hz1 hz2 hown hvb hn
  obtain ⟨n, hn⟩ : ∃ n, n = rs.length := ⟨_, rfl⟩
  rw [← hn] at hv hlen ⊢
  have HL := Lib.hid hn
  clear hn
  have hc : n ≤ c := by
    rcases HO.out.2 with ⟨h1, h2⟩ | ⟨g, cap, cur, h1, _, _, h2, _⟩
    · rw [HL.out]; omega
    · rw [hv] at h1; injection h1 with _ _ h3; rw [HL.out, h3]; exact h2
  subst hv
  by_cases hcn : c = n
  · subst c
    go_enter Tryz.func146, Tryz.ntmps146
    go_wp2_with (at_builtin; refine wpList_append_own_at _ rfl _ _ 64 rfl B 30 i0 _ 2 8 Tryz.underlying64 HI.out.1 HI.out.2.1 HI.out.2.2.1 HI.out.2.2.2 rfl (by decide) (.slice A n n) rs.length (rs.flatMap clP) rfl HO.out ⟨vb, 0, none⟩ 1 1 (clP r) rfl rfl HN.out (rcl_one1 r) (by have := HL.out; unfold maxLen; omega) (by have := HL.out; omega) hB ?_; intro v' w' h1 h2 _ h4; have HZ := Lib.hid (And.intro h1 (And.intro h2 h4)); clear h1 h2 h4)
    go_ret
    refine ⟨v', rfl, ?_, HZ.out.2.1, HZ.out.2.2⟩
    have := HZ.out.1
    unfold EOwn GOwn
    rw [List.length_append, List.flatMap_append]
    simpa using this
  · go_enter Tryz.func146, Tryz.ntmps146
    go_wp2_with (at_builtin; refine wpList_append_own_at _ rfl _ _ 64 rfl B 30 i0 _ 2 8 Tryz.underlying64 HI.out.1 HI.out.2.1 HI.out.2.2.1 HI.out.2.2.2 rfl (by decide) (.slice A n c) rs.length (rs.flatMap clP) rfl HO.out ⟨vb, 0, none⟩ 1 1 (clP r) rfl rfl HN.out (rcl_one1 r) (by have := HL.out; unfold maxLen; omega) (by have := HL.out; omega) hB ?_; intro v' w' h1 h2 _ h4; have HZ := Lib.hid (And.intro h1 (And.intro h2 h4)); clear h1 h2 h4)
    go_ret
    refine ⟨v', rfl, ?_, HZ.out.2.1, HZ.out.2.2⟩
    have := HZ.out.1
    unfold EOwn GOwn
    rw [List.length_append, List.flatMap_append]
    simpa using this
theorem ins_room (w : World) (B g cap i : Nat) (cur : List Value) (rs : List (Nat × Nat)) (r : Nat × Nat) (vb : Nat) (hg : w.heap[g]? = some (.cells cur.toArray 30 (0, 0))) (hBg : B ≤ g) (hcap : cap ≤ maxLen) (hsz : cur.length = cap * 2) (htk : cur.take (rs.length * 2) = rs.flatMap clP)
    (hvb : w.heap[vb]? = some (.cells (clP r).toArray 30 (0, 0))) (hne : vb ≠ g) (hi : i < rs.length) (hlen : rs.length ≤ 1000) (hroom : rs.length + 1 ≤ cap) :
    Calls Tryz.prog 146 #[.slice (some ⟨g, 0, none⟩) rs.length cap, .int .i64 (i : Int), .slice (some ⟨vb, 0, none⟩) 1 1] w (InsSaid w B (.slice (some ⟨g, 0, none⟩) rs.length cap) (rs.take i ++ r :: rs.drop i)) := by
  have hsize : (Tryz.prog.info? 30).map (·.size) = some 2 := by kernel_rfl
  obtain ⟨n, hn⟩ : ∃ n, rs.length = n := ⟨_, rfl⟩
  have hX : ((rs.take i).flatMap clP).length = i * 2 := by rw [rflat_len, List.length_take]; omega
  have hD : ((rs.drop i).flatMap clP).length = (n - i) * 2 := by rw [rflat_len, List.length_drop, hn]
  have hXD : (rs.take i).flatMap clP ++ (rs.drop i).flatMap clP = rs.flatMap clP := by rw [← List.flatMap_append, List.take_append_drop]
  have hsl := shift_list ((rs.take i).flatMap clP) (clP r) ((rs.drop i).flatMap clP) cur (by rw [hX, hD, hXD, ← htk]; congr 1; omega) (by rw [hX, hD, rcl_len, hsz]; omega)
  have hins := flat_ins rs r i
  have hlins := len_ins rs r i (Nat.le_of_lt hi)
  have h1D := rcl_one (rs.drop i)
  have h1r := rcl_one1 r
  have hDt : ∀ j u, ((rs.drop i).flatMap clP)[j]? = some u → w.cell? ((⟨g, i * 2, none⟩ : Addr).add j) = some u := fun j u hj => by
    rw [Addr.add_lit, cell_of_row _ _ _ _ 30 (0, 0) hg]
    rw [← rflat_drop, List.getElem?_drop, ← htk, List.getElem?_take] at hj
    split at hj
    · simpa using hj
    · cases hj
  have hrt : ∀ j u, (clP r)[j]? = some u → w.cell? ((⟨vb, 0, none⟩ : Addr).add j) = some u := fun j u hj => by
    rw [Addr.add_lit, Nat.zero_add, cell_of_row _ _ j _ 30 (0, 0) hvb, ← hj]
    simp
  rw [hX, hD, rcl_len, show i * 2 + 2 = (i + 1) * 2 by omega] at hsl
  generalize hDD : (rs.drop i).flatMap clP = D at *
  rw [hn] at htk hi hlen hroom hlins ⊢
  have hsB : w.shape? g = some (30, cap * 2) := by unfold World.shape?; rw [hg]; simp [hsz]
  have hsA : w.shape? vb = some (30, 2) := by unfold World.shape?; rw [hvb]; rfl
  have hov : ∀ lb cb, (callFunc 163 #[.slice (some ⟨vb, 0, none⟩) 1 1, .slice (some ⟨g, (i + 1) * 2, none⟩) lb cb]).run Tryz.prog w = .ok (.value (.bool false)) w := fun lb cb => by
    rw [run_callFunc_extern Tryz.func163 (by kernel_rfl) (by kernel_rfl) (by kernel_rfl) (e := Extern.SlicesOverlaps.overlaps #[64, 64] #[4]) (by kernel_rfl),
      Lib.run_overlaps_apart w 64 4 30 Tryz.underlying64 2 Tryz.sizeOf30 ⟨vb, 0, none⟩ ⟨g, (i + 1) * 2, none⟩ 1 1 lb cb hne 30 30 2 (cap * 2) hsA hsB (by omega) (frozen_of_row w vb 0 _ 30 hvb) (frozen_of_row w vb 2 _ 30 hvb)]
    rfl
  have hcp1 : ∀ ty dc sc, (Builtin.copy_ #[64, 64] ty #[.slice (some ⟨g, (i + 1) * 2, none⟩) (n + 1 - (i + 1)) dc, .slice (some ⟨g, i * 2, none⟩) (n + 1 - i) sc]).run Tryz.prog w.drew = .ok (goInt (n - i : Nat)) (w.drew.setRow g (splice cur ((i + 1) * 2) D).toArray) := fun ty dc sc =>
    run_copy_rowk w.drew 64 64 ty 30 2 g ((i + 1) * 2) (n + 1 - (i + 1)) dc ⟨g, i * 2, none⟩ (n + 1 - i) sc cur 30 D (n - i) Tryz.underlying64 hsize hg (by simp only [Nat.min_def]; split <;> omega) hD hDt (by rw [hD, hsz]; omega) h1D
  obtain ⟨W1, hW1⟩ : ∃ W1, W1 = w.drew.setRow g (splice cur ((i + 1) * 2) D).toArray := ⟨_, rfl⟩
  have hg1 : W1.heap[g]? = some (.cells (splice cur ((i + 1) * 2) D).toArray 30 (0, 0)) := by rw [hW1]; exact setRow_heap w.drew g _ _ 30 (0, 0) hg
  have hr1 : ∀ j u, (clP r)[j]? = some u → W1.cell? ((⟨vb, 0, none⟩ : Addr).add j) = some u := fun j u hj => by
    rw [hW1, cell_setRow_other _ _ _ _ (by rw [Addr.add_lit]; exact hne)]
    exact hrt j u hj
  have hcp2 : ∀ ty dc, (Builtin.copy_ #[64, 64] ty #[.slice (some ⟨g, i * 2, none⟩) (n + 1 - i) dc, .slice (some ⟨vb, 0, none⟩) 1 1]).run Tryz.prog W1 = .ok (goInt (1 : Nat)) (W1.setRow g (splice (splice cur ((i + 1) * 2) D) (i * 2) (clP r)).toArray) := fun ty dc =>
    run_copy_rowk W1 64 64 ty 30 2 g (i * 2) (n + 1 - i) dc ⟨vb, 0, none⟩ 1 1 _ 30 (clP r) 1 Tryz.underlying64 hsize hg1 (by simp only [Nat.min_def]; split <;> omega) rfl hr1 (by rw [length_splice _ _ _ (by rw [hD, hsz]; omega), rcl_len, hsz]; omega) h1r
  rw [← hW1] at hcp1
  have hG : w.grownBy W1 (some g) := by rw [hW1]; exact ⟨rfl, rfl, rfl, (by rw [setRow_size]; exact Nat.le_refl _), fun k hk hne => setRow_other w.drew g k _ (fun e => hne (by rw [e]))⟩
  have hfin := setRow_heap W1 g _ (splice (splice cur ((i + 1) * 2) D) (i * 2) (clP r)).toArray 30 (0, 0) hg1
  have hG2 := hG.trans (grown_setRow W1 g (splice (splice cur ((i + 1) * 2) D) (i * 2) (clP r)).toArray)
  have HZ := Lib.hid (And.intro hsl (And.intro hins (And.intro hlins (And.intro hfin (And.intro hG2 (And.intro hcap (And.intro hBg hn)))))))
  have hin : i < n := hi
  have hin2 : ¬ ((i : Int) = (n : Int)) := by omega
  have hroom2 : ¬ ((cap : Int) < (n : Int) + 1) := by omega
  have hw1 : IntKind.i64.wrap ((i : Int) + 1) = (i : Int) + 1 := by rw [IntKind.wrap_i64]; omega
  have hw2 : IntKind.i64.wrap ((n : Int) + 1) = (n : Int) + 1 := by rw [IntKind.wrap_i64]; omega
  have mixed : Tryz.prog.follows Departure.mixedOrders = true := by kernel_rfl
  have hb1 : (0 : Int) ≤ (i : Int) + 1 := by omega
  have hle : i ≤ n := by omega
  have htn : ((i : Int) + 1).toNat = i + 1 := by omega
  have hb2 : ¬ (cap = i + 1) := by omega
  have hb4 : ¬ (cap = i) := by omega
  have hb3 : (i : Int) ≤ (n : Int) + 1 := by omega
  have hHS := Lib.hid (And.intro hsz (And.intro htk (And.intro hg (And.intro hvb (And.intro hX (And.intro hD (And.intro hXD (And.intro hDt hrt))))))))
  clear hsl hins hlins hfin hG2 hBg hsz htk hg hvb hX hD hXD hDt hrt hG hr1 hg1 hW1 h1D h1r hsA hsB hsize hDD
  obtain ⟨HD1, HD2⟩ := hHS.out.2.2.2.2
  clear HD1 HD2
  go_enter Tryz.func146, Tryz.ntmps146
  go_wp2_with (simp only [hov])
  go_region_law_o (refine step_copy_runI rfl _ _ 64 64 rfl (.slice (some ⟨g, (i + 1) * 2, none⟩) (n + 1 - (i + 1)) (cap - (i + 1))) (.slice (some ⟨g, i * 2, none⟩) (n + 1 - i) (cap - i)) (by simp [Act.eval, Act.put]) (by simp [Act.eval, Act.put]) (hcp1 _ _ _) ?_)
  go_wp2_with (at_builtin; refine wpList_copy_runI _ rfl _ _ 64 64 rfl (.slice (some ⟨g, i * 2, none⟩) (n + 1 - i) (cap - i)) (.slice (some ⟨vb, 0, none⟩) 1 1) rfl rfl (hcp2 _ _) ?_)
  go_ret
  refine ⟨.slice (some ⟨g, 0, none⟩) (n + 1) cap, rfl, ⟨?_, .inr ⟨g, cap, _, ?_, HZ.out.2.2.2.2.2.2.1, HZ.out.2.2.2.1, ?_, HZ.out.2.2.2.2.2.1, ?_, ?_⟩⟩, HZ.out.2.2.2.2.1, Or.inl rfl⟩
  · rw [rflat_len]
  · rw [HZ.out.2.2.1]
  · rw [HZ.out.2.2.1]; exact hroom
  · rw [List.size_toArray, HZ.out.1.2, hHS.out.1]
  · rw [HZ.out.2.2.1, HZ.out.2.1, ← HZ.out.1.1]
    congr 1
    have := HZ.out.2.2.2.2.2.2.2
    omega
theorem ins_grow (w : World) (B g cap i : Nat) (cur : List Value) (rs : List (Nat × Nat)) (r : Nat × Nat) (vb : Nat) (hg : w.heap[g]? = some (.cells cur.toArray 30 (0, 0))) (hB : B ≤ w.heap.size) (htk : cur.take (rs.length * 2) = rs.flatMap clP)
    (hvb : w.heap[vb]? = some (.cells (clP r).toArray 30 (0, 0))) (hi : i < rs.length) (hlen : rs.length ≤ 1000) (hcap : rs.length ≤ cap) (hroom : cap < rs.length + 1) :
    Calls Tryz.prog 146 #[.slice (some ⟨g, 0, none⟩) rs.length cap, .int .i64 (i : Int), .slice (some ⟨vb, 0, none⟩) 1 1] w (InsSaid w B (.slice (some ⟨g, 0, none⟩) rs.length cap) (rs.take i ++ r :: rs.drop i)) := by
  obtain ⟨i0, hi0, hz0, hz1, hz2⟩ := info_parts info43
  have hsize : (Tryz.prog.info? 30).map (·.size) = some 2 := by kernel_rfl
  obtain ⟨n, hn⟩ : ∃ n, rs.length = n := ⟨_, rfl⟩
  have hX : ((rs.take i).flatMap clP).length = i * 2 := by rw [rflat_len, List.length_take]; omega
  have hD : ((rs.drop i).flatMap clP).length = (n - i) * 2 := by rw [rflat_len, List.length_drop, hn]
  have hins := flat_ins rs r i
  have hlins := len_ins rs r i (Nat.le_of_lt hi)
  have h1D := rcl_one (rs.drop i)
  have h1r := rcl_one1 r
  have hgw : g < w.heap.size := (Array.getElem?_eq_some_iff.1 hg).1
  have hvw : vb < w.heap.size := (Array.getElem?_eq_some_iff.1 hvb).1
  have hXt : ∀ j u, ((rs.take i).flatMap clP)[j]? = some u → w.cell? ((⟨g, 0, none⟩ : Addr).add j) = some u := fun j u hj => by
    rw [Addr.add_lit, Nat.zero_add, cell_of_row _ _ _ _ 30 (0, 0) hg]
    rw [← rflat_take, List.getElem?_take, ← htk, List.getElem?_take] at hj
    split at hj
    · split at hj
      · simpa using hj
      · cases hj
    · cases hj
  have hDt : ∀ j u, ((rs.drop i).flatMap clP)[j]? = some u → w.cell? ⟨g, i * 2 + j, none⟩ = some u := fun j u hj => by
    rw [cell_of_row _ _ _ _ 30 (0, 0) hg]
    rw [← rflat_drop, List.getElem?_drop, ← htk, List.getElem?_take] at hj
    split at hj
    · simpa using hj
    · cases hj
  have hrt : ∀ j u, (clP r)[j]? = some u → w.cell? ⟨vb, j, none⟩ = some u := fun j u hj => by
    rw [cell_of_row _ _ j _ 30 (0, 0) hvb, ← hj]
    simp
  rw [hn] at htk hi hlen hroom hlins hcap ⊢
  generalize hXX : (rs.take i).flatMap clP = X at *
  generalize hDD : (rs.drop i).flatMap clP = D at *
  have hold : (Builtin.firstCells i0.size i (.slice (some ⟨g, 0, none⟩) i cap)).run Tryz.prog w.drew = .ok X.toArray w.drew := by
    rw [hz1]
    exact run_firstCells_some w.drew 2 i ⟨g, 0, none⟩ i cap X hX hXt
  have hik : i + (n + 1 - i) = n + 1 := by omega
  obtain ⟨z, hz⟩ : ∃ z : Value, z = .agg #[.int .u32 0, .int .u8 0] := ⟨_, rfl⟩
  have hzc : z.cells.size = 2 := by rw [hz]; rfl
  rw [← hz] at hz0
  have hkk : (n : Int) + 1 - (i : Int) = ((n + 1 - i : Nat) : Int) := by omega
  have hrz : ∀ ty, (Builtin.append_ #[64, 3] ty #[.slice (some ⟨g, 0, none⟩) i cap, .int .i64 ((n : Int) + 1 - (i : Int))]).run Tryz.prog w =
      .ok (.slice (some ⟨w.heap.size, 0, none⟩) (n + 1) (grownCap w (n + 1) cap 30)) (w.drew.alloc (.cells (X.toArray ++ Builtin.zeroCells z.cells (n + 1 - i) ++ Builtin.zeroCells z.cells (grownCap w (n + 1) cap 30 - (n + 1))) 30)) := fun ty => by
    have h := Lib.run_append_grow_zeros w 64 3 ty 30 i0 _ .i64 .i64 Tryz.underlying64 Tryz.underlying3 hi0 hz0 (some ⟨g, 0, none⟩) i cap X hold (n + 1 - i) (by omega) (by omega) (by omega) (by omega) (by rw [hz2]; omega) (by rw [hz2, hik]; exact growslice_fits (by omega) (by omega))
    rw [hik] at h
    rw [hkk]
    exact h
  obtain ⟨G, hG⟩ : ∃ G, G = grownCap w (n + 1) cap 30 := ⟨_, rfl⟩
  obtain ⟨Z, hZZ⟩ : ∃ Z : List Value, Z = (Builtin.zeroCells z.cells (n + 1 - i)).toList ++ (Builtin.zeroCells z.cells (G - (n + 1))).toList := ⟨_, rfl⟩
  have hGn : n + 1 ≤ G := by rw [hG]; exact grownCap_ge w _ _ _
  have hGm : G ≤ maxLen := by rw [hG]; exact grownCap_le_maxLen w (n + 1) cap 30 (by unfold maxLen; omega)
  have hG63 : G ≤ 9223372036854775807 := by unfold maxLen at hGm; omega
  have hZl : Z.length = (G - i) * 2 := by
    rw [hZZ, List.length_append, Array.length_toList, Array.length_toList, size_zeroCells, size_zeroCells, hzc]; omega
  have hrow : X.toArray ++ Builtin.zeroCells z.cells (n + 1 - i) ++ Builtin.zeroCells z.cells (G - (n + 1)) = (X ++ Z).toArray := by
    rw [hZZ]
    apply Array.ext'
    simp
  rw [← hG, hrow] at hrz
  have hgl := grow_list X (clP r) D Z (by rw [hD, hZl, rcl_len]; omega)
  rw [hX, hD, rcl_len, show i * 2 + 2 = (i + 1) * 2 by omega] at hgl
  obtain ⟨W1, hW1⟩ : ∃ W1, W1 = w.drew.alloc (.cells (X ++ Z).toArray 30) := ⟨_, rfl⟩
  rw [← hW1] at hrz
  have hN1 : W1.heap[w.heap.size]? = some (.cells (X ++ Z).toArray 30 (0, 0)) := by rw [hW1]; exact heap_alloc_new w.drew _
  have hold1 : ∀ k, k < w.heap.size → W1.heap[k]? = w.heap[k]? := fun k hk => by rw [hW1]; exact heap_alloc_old w.drew _ hk
  have hs1 : W1.heap.size = w.heap.size + 1 := by rw [hW1]; exact alloc_size _ _
  have hcpA : ∀ ty dc, (Builtin.copy_ #[64, 64] ty #[.slice (some ⟨w.heap.size, i * 2, none⟩) (n + 1 - i) dc, .slice (some ⟨vb, 0, none⟩) 1 1]).run Tryz.prog W1 = .ok (goInt (1 : Nat)) (W1.setRow w.heap.size (splice (X ++ Z) (i * 2) (clP r)).toArray) := fun ty dc =>
    run_copy_rowk W1 64 64 ty 30 2 w.heap.size (i * 2) (n + 1 - i) dc ⟨vb, 0, none⟩ 1 1 _ 30 (clP r) 1 Tryz.underlying64 hsize hN1 (by simp only [Nat.min_def]; split <;> omega) rfl
      (fun j u hj => by rw [Addr.add_lit, Nat.zero_add, World.cell?_of_block (hold1 vb hvw)]; exact hrt j u hj) (by rw [List.length_append, hX, hZl, rcl_len]; omega) h1r
  obtain ⟨W2, hW2⟩ : ∃ W2, W2 = W1.setRow w.heap.size (splice (X ++ Z) (i * 2) (clP r)).toArray := ⟨_, rfl⟩
  rw [← hW2] at hcpA
  have hN2 : W2.heap[w.heap.size]? = some (.cells (splice (X ++ Z) (i * 2) (clP r)).toArray 30 (0, 0)) := by rw [hW2]; exact setRow_heap W1 _ _ _ 30 (0, 0) hN1
  have hold2 : ∀ k, k < w.heap.size → W2.heap[k]? = w.heap[k]? := fun k hk => by rw [hW2, setRow_other _ _ _ _ (by omega)]; exact hold1 k hk
  have hl2 : (splice (X ++ Z) (i * 2) (clP r)).length = G * 2 := by rw [length_splice _ _ _ (by rw [List.length_append, hX, hZl, rcl_len]; omega), List.length_append, hX, hZl]; omega
  have hcpB : ∀ ty dc sc, (Builtin.copy_ #[64, 64] ty #[.slice (some ⟨w.heap.size, (i + 1) * 2, none⟩) (n + 1 - (i + 1)) dc, .slice (some ⟨g, i * 2, none⟩) (n - i) sc]).run Tryz.prog W2.drew = .ok (goInt (n - i : Nat)) (W2.drew.setRow w.heap.size (splice (splice (X ++ Z) (i * 2) (clP r)) ((i + 1) * 2) D).toArray) := fun ty dc sc =>
    run_copy_rowk W2.drew 64 64 ty 30 2 w.heap.size ((i + 1) * 2) (n + 1 - (i + 1)) dc ⟨g, i * 2, none⟩ (n - i) sc _ 30 D (n - i) Tryz.underlying64 hsize hN2 (by simp only [Nat.min_def]; split <;> omega) hD
      (fun j u hj => by rw [Addr.add_lit]; exact (World.cell?_of_block (a := ⟨g, i * 2 + j, none⟩) (hold2 g hgw)).trans (hDt j u hj)) (by rw [hl2, hD]; omega) h1D
  have hN3 := setRow_heap W2.drew w.heap.size _ (splice (splice (X ++ Z) (i * 2) (clP r)) ((i + 1) * 2) D).toArray 30 (0, 0) hN2
  have hGB : w.grownBy (W2.drew.setRow w.heap.size (splice (splice (X ++ Z) (i * 2) (clP r)) ((i + 1) * 2) D).toArray) (some g) := by
    refine ⟨by rw [hW2, hW1]; rfl, by rw [hW2, hW1]; rfl, by rw [hW2, hW1]; rfl, ?_, fun k hk _ => ?_⟩
    · rw [setRow_size]
      have : W2.heap.size = w.heap.size + 1 := by rw [hW2, setRow_size]; exact hs1
      show w.heap.size ≤ W2.heap.size
      omega
    · rw [setRow_other _ _ _ _ (by omega)]
      exact hold2 k hk
  have hcapn : cap = n := by omega
  have HZ := Lib.hid (And.intro hgl (And.intro hins (And.intro hlins (And.intro hN3 (And.intro hGB (And.intro hGm (And.intro hB (And.intro hX (And.intro hZl (And.intro hGn hD))))))))))
  clear hgl hins hlins hN3 hGB hGm hB hX hZl hold hik hz hzc hz0 hz1 hz2 hi0 hkk hG hZZ hrow hN1 hold1 hs1 hN2 hold2 hl2 hXX hDD hW1 hW2 hXt hDt hrt h1D h1r htk hg hvb hsize hD
  subst hcapn
  have hin2 : ¬ ((i : Int) = (cap : Int)) := by omega
  have hw1 : IntKind.i64.wrap ((i : Int) + 1) = (i : Int) + 1 := by rw [IntKind.wrap_i64]; omega
  have hw2 : IntKind.i64.wrap ((cap : Int) + 1) = (cap : Int) + 1 := by rw [IntKind.wrap_i64]; omega
  have mixed : Tryz.prog.follows Departure.mixedOrders = true := by kernel_rfl
  have hb1 : (0 : Int) ≤ (i : Int) + 1 := by omega
  have hle : i ≤ cap := by omega
  have htn : ((i : Int) + 1).toNat = i + 1 := by omega
  have hb2 : ¬ (G = i + 1) := by omega
  have hb4 : ¬ (cap = i) := by omega
  have hb5 : ¬ (G = i) := by omega
  have hb3 : (i : Int) ≤ (cap : Int) + 1 := by omega
  go_enter Tryz.func146, Tryz.ntmps146
  go_wp2_with (first
    | (at_builtin; refine Lib.wpList_append_run _ rfl _ _ _ _ rfl _ _ rfl rfl _ _ (hrz _) ?_)
    | (at_builtin; refine wpList_copy_runI _ rfl _ _ 64 64 rfl (.slice (some ⟨w.heap.size, i * 2, none⟩) (cap + 1 - i) (G - i)) (.slice (some ⟨vb, 0, none⟩) 1 1) rfl rfl (hcpA _ _) ?_))
  go_region_law_o (refine step_copy_runI rfl _ _ 64 64 rfl (.slice (some ⟨w.heap.size, (i + 1) * 2, none⟩) (cap + 1 - (i + 1)) (G - (i + 1))) (.slice (some ⟨g, i * 2, none⟩) (cap - i) (cap - i)) (by simp [Act.eval, Act.put]) (by simp [Act.eval, Act.put]) (hcpB _ _ _) ?_)
  go_wp2
  go_ret
  refine ⟨.slice (some ⟨w.heap.size, 0, none⟩) (cap + 1) G, rfl, ⟨?_, .inr ⟨w.heap.size, G, _, ?_, HZ.out.2.2.2.2.2.2.1, HZ.out.2.2.2.1, ?_, HZ.out.2.2.2.2.2.1, ?_, ?_⟩⟩, HZ.out.2.2.2.2.1, Or.inr rfl⟩
  · rw [rflat_len]
  · rw [HZ.out.2.2.1]
  · rw [HZ.out.2.2.1]; exact HZ.out.2.2.2.2.2.2.2.2.2.1
  · have h1 := HZ.out.2.2.2.2.2.2.2.1
    have h2 := HZ.out.2.2.2.2.2.2.2.2.1
    rw [List.size_toArray, HZ.out.1.2, List.length_append, h1, h2]
    omega
  · rw [HZ.out.2.2.1, HZ.out.2.1, ← HZ.out.1.1]
    congr 1
    omega
theorem ins_any (w : World) (B : Nat) (v : Value) (rs : List (Nat × Nat)) (r : Nat × Nat) (i vb : Nat) (hown : EOwn w B v rs) (hvb : w.heap[vb]? = some (.cells (clP r).toArray 30 (0, 0))) (hne : v.ownBlock ≠ some vb) (hi : i ≤ rs.length) (hlen : rs.length ≤ 1000) (hB : B ≤ w.heap.size) :
    Calls Tryz.prog 146 #[v, .int .i64 (i : Int), .slice (some ⟨vb, 0, none⟩) 1 1] w (InsSaid w B v (rs.take i ++ r :: rs.drop i)) := by
  rcases Nat.lt_or_eq_of_le hi with h | h
  · rcases hown.2 with ⟨_, h0⟩ | ⟨g, cap, cur, rfl, hBg, hg, h1, h2, h3, h4⟩
    · have : rs.length = 0 := h0; omega
    · have hg' : w.heap[g]? = some (.cells cur.toList.toArray 30 (0, 0)) := hg
      by_cases hroom : rs.length + 1 ≤ cap
      · exact ins_room w B g cap i cur.toList rs r vb hg' hBg h2 (by simpa using h3) h4 hvb (fun e => hne (by rw [e]; rfl)) h hlen hroom
      · exact ins_grow w B g cap i cur.toList rs r vb hg' hB h4 hvb h hlen h1 (by omega)
  · subst h
    rw [List.take_length, List.drop_length]
    exact ins_end w B v rs r vb hown hvb hlen hB
end Go.Proofs.YtjbogjbopgcbhaaGreatDoor.InP
namespace Go.Proofs.YtjbogjbopgcbhaaGreatDoor.Eg
open Pre Ser Rts
open Go.Proofs.YtjbogjbopgcbhaaGreatDoor.Src (row1 row2 Mk SrcAt)
open Go.Proofs.YtjbogjbopgcbhaaGreatDoor.Lk (LkAt)
open Go.ChangeShapes Go.WideShapes Go.ChangeAt Go.RowKit
set_option maxRecDepth 8000
set_option linter.unusedVariables false
set_option linter.unusedSimpArgs false
structure Rw where
  a : Nat
  n : Nat
  h : Bool
  x : Nat
  y : Nat
  v : Nat
  g : Nat
  r : Nat
  s : Nat
  m : Nat
def Rw.cl (e : Rw) : List Value := [.int .u32 (e.a : Int), .int .u8 (e.n : Int), .bool e.h, .int .u32 (e.x : Int), .int .u8 (e.y : Int), .int .i64 (e.v : Int), .int .u16 (e.g : Int), .int .u16 (e.r : Int), .int .u16 (e.s : Int), .int .u16 (e.m : Int)]
def GSl {α : Type} (k : Nat) (cl : α → List Value) (w : World) (A : Option Addr) (l : List α) : Prop := ∀ j (hj : j < l.length), ∃ b o, A = some ⟨b, o, none⟩ ∧ b < w.heap.size ∧ ∀ i, i < k → w.cell? ⟨b, o + j * k + i, none⟩ = (cl l[j])[i]?
theorem GSl.fr {α : Type} {k : Nat} {cl : α → List Value} {w w' : World} {A : Option Addr} {l : List α} {Y : Nat → Prop} (h : GSl k cl w A l) (F : Fr Y w w') (hy : ∀ b o, A = some ⟨b, o, none⟩ → ¬ Y b) : GSl k cl w' A l := fun j hj => by
  obtain ⟨b, o, e, hb, hc⟩ := h j hj
  exact ⟨b, o, e, Nat.lt_of_lt_of_le hb F.size, fun i hi => (World.cell?_of_block (a := ⟨b, o + j * k + i, none⟩) (F.block b hb (hy b o e))).trans (hc i hi)⟩
theorem GSl.below {α : Type} {k : Nat} {cl : α → List Value} {w w' : World} {A : Option Addr} {l : List α} (h : GSl k cl w A l) (B : Below w.heap.size w w') : GSl k cl w' A l := h.fr (Y := fun _ => False) (Fr.of B) (fun _ _ _ h => h)
theorem GSl.ef {α : Type} {k : Nat} {cl : α → List Value} {lo : Nat} {w w' : World} {A : Option Addr} {l : List α} {X : Nat → Prop} (h : GSl k cl w A l) (F : Ef lo X w w') (hy : ∀ b o, A = some ⟨b, o, none⟩ → ¬ X b ∧ ∃ x t, t ≠ 167 ∧ w.heap[b]? = some (.cells x t (0, 0))) : GSl k cl w' A l := fun j hj => by
  obtain ⟨b, o, e, hb, hc⟩ := h j hj
  obtain ⟨h1, x, t, ht, h2⟩ := hy b o e
  exact ⟨b, o, e, Nat.lt_of_lt_of_le hb F.below.size, fun i hi => (World.cell?_of_block (a := ⟨b, o + j * k + i, none⟩) ((F.cells b x t _ h2 ht h1).trans h2.symm)).trans (hc i hi)⟩
theorem gsl_of {α : Type} {t : TypeId} {k : Nat} {cl : α → List Value} {w : World} {B : Nat} {v : Value} {l : List α} (h : GOwn t k cl w B v l) (hk : ∀ x, (cl x).length = k) : ∃ A c, v = .slice A l.length c ∧ l.length ≤ c ∧ GSl k cl w A l ∧ ∀ b o, A = some ⟨b, o, none⟩ → v.ownBlock = some b ∧ o = 0 := by
  obtain ⟨A, c, hv, hc, hj⟩ := h.form hk
  refine ⟨A, c, hv, hc, fun j hl => ?_, fun b o e => ?_⟩
  · obtain ⟨b, e, _, hb, hx⟩ := hj j hl
    exact ⟨b, 0, e, hb, fun i hi => by rw [Nat.zero_add]; exact hx i hi⟩
  · rcases h.2 with ⟨hv2, -⟩ | ⟨g, cap, cur, hv2, -⟩
    · rw [hv] at hv2; injection hv2 with h1; rw [h1] at e; cases e
    · rw [hv] at hv2; injection hv2 with h1; rw [h1] at e; injection e with e; injection e with e1 e2 _
      subst e1 e2
      rw [hv, h1]; exact ⟨rfl, rfl⟩
def gidx {α : Type} (p : α → Bool) (L : List α) : Int := if L.any p then (L.findIdx p : Int) else -1
theorem gidx_hit {α : Type} {p : α → Bool} {L : List α} {k : Nat} (hk : k < L.length) (hp : p L[k] = true) (h : ∀ j (hj : j < L.length), j < k → p L[j] = false) : gidx p L = (k : Int) := by
  have ha : L.any p = true := List.any_eq_true.2 ⟨_, List.getElem_mem hk, hp⟩
  unfold gidx
  rw [if_pos ha]
  congr 1
  exact (List.findIdx_eq hk).2 ⟨hp, fun j hj => h j (by omega) hj⟩
theorem gidx_miss {α : Type} {p : α → Bool} {L : List α} (h : ∀ j (hj : j < L.length), p L[j] = false) : gidx p L = -1 := by
  unfold gidx
  rw [if_neg]
  intro ha
  obtain ⟨x, hx, hp⟩ := List.any_eq_true.1 ha
  obtain ⟨j, hj, rfl⟩ := List.getElem_of_mem hx
  rw [h j hj] at hp; cases hp
theorem gidx_ge {α : Type} {p : α → Bool} {L : List α} : decide (0 ≤ gidx p L) = L.any p := by
  unfold gidx
  cases h : L.any p with
  | true => rw [if_pos rfl]; exact decide_eq_true (by omega)
  | false => rw [if_neg (by simp)]; rfl
structure HmAt (w : World) (b o : Nat) (e : Hm) : Prop where
  k0 : w.cell? ⟨b, o, none⟩ = some (.int .u32 (e.a : Int))
  k1 : w.cell? ⟨b, o + 1, none⟩ = some (.int .u8 (e.n : Int))
  k2 : w.cell? ⟨b, o + 2, none⟩ = some (.int .u16 (e.s : Int))
theorem HmAt.of {w : World} {b o : Nat} {e : Hm} (h : ∀ i, i < 3 → w.cell? ⟨b, o + i, none⟩ = (Hm.cl e)[i]?) : HmAt w b o e := ⟨h 0 (by decide), h 1 (by decide), h 2 (by decide)⟩
theorem HmAt.keep {w w' : World} {b o : Nat} {e : Hm} (h : HmAt w b o e) (hb : w'.heap[b]? = w.heap[b]?) : HmAt w' b o e := by
  have k : ∀ i, w'.cell? ⟨b, i, none⟩ = w.cell? ⟨b, i, none⟩ := fun i => World.cell?_of_block (a := ⟨b, i, none⟩) hb
  exact ⟨(k _).trans h.k0, (k _).trans h.k1, (k _).trans h.k2⟩
structure PtAt (w : World) (b o : Nat) (e : Pt) : Prop where
  k0 : w.cell? ⟨b, o, none⟩ = some (.int .u8 (e.k : Int))
  k1 : w.cell? ⟨b, o + 1, none⟩ = some (.int .u64 (e.n : Int))
  k2 : w.cell? ⟨b, o + 2, none⟩ = some (.int .i64 (e.d : Int))
  k3 : w.cell? ⟨b, o + 3, none⟩ = some (.int .u32 (e.a : Int))
  k4 : w.cell? ⟨b, o + 4, none⟩ = some (.int .u8 (e.l : Int))
  k5 : w.cell? ⟨b, o + 5, none⟩ = some (.int .u16 (e.s : Int))
  k6 : w.cell? ⟨b, o + 6, none⟩ = some (.int .u16 (e.m : Int))
theorem PtAt.of {w : World} {b o : Nat} {e : Pt} (h : ∀ i, i < 7 → w.cell? ⟨b, o + i, none⟩ = (Pt.cl e)[i]?) : PtAt w b o e := ⟨h 0 (by decide), h 1 (by decide), h 2 (by decide), h 3 (by decide), h 4 (by decide), h 5 (by decide), h 6 (by decide)⟩
theorem PtAt.keep {w w' : World} {b o : Nat} {e : Pt} (h : PtAt w b o e) (hb : w'.heap[b]? = w.heap[b]?) : PtAt w' b o e := by
  have k : ∀ i, w'.cell? ⟨b, i, none⟩ = w.cell? ⟨b, i, none⟩ := fun i => World.cell?_of_block (a := ⟨b, i, none⟩) hb
  exact ⟨(k _).trans h.k0, (k _).trans h.k1, (k _).trans h.k2, (k _).trans h.k3, (k _).trans h.k4, (k _).trans h.k5, (k _).trans h.k6⟩
structure RwAt (w : World) (b o : Nat) (e : Rw) : Prop where
  k0 : w.cell? ⟨b, o, none⟩ = some (.int .u32 (e.a : Int))
  k1 : w.cell? ⟨b, o + 1, none⟩ = some (.int .u8 (e.n : Int))
  k2 : w.cell? ⟨b, o + 2, none⟩ = some (.bool e.h)
  k3 : w.cell? ⟨b, o + 3, none⟩ = some (.int .u32 (e.x : Int))
  k4 : w.cell? ⟨b, o + 4, none⟩ = some (.int .u8 (e.y : Int))
  k5 : w.cell? ⟨b, o + 5, none⟩ = some (.int .i64 (e.v : Int))
  k6 : w.cell? ⟨b, o + 6, none⟩ = some (.int .u16 (e.g : Int))
  k7 : w.cell? ⟨b, o + 7, none⟩ = some (.int .u16 (e.r : Int))
  k8 : w.cell? ⟨b, o + 8, none⟩ = some (.int .u16 (e.s : Int))
  k9 : w.cell? ⟨b, o + 9, none⟩ = some (.int .u16 (e.m : Int))
theorem RwAt.of {w : World} {b o : Nat} {e : Rw} (h : ∀ i, i < 10 → w.cell? ⟨b, o + i, none⟩ = (Rw.cl e)[i]?) : RwAt w b o e := ⟨h 0 (by decide), h 1 (by decide), h 2 (by decide), h 3 (by decide), h 4 (by decide), h 5 (by decide), h 6 (by decide), h 7 (by decide), h 8 (by decide), h 9 (by decide)⟩
theorem RwAt.keep {w w' : World} {b o : Nat} {e : Rw} (h : RwAt w b o e) (hb : w'.heap[b]? = w.heap[b]?) : RwAt w' b o e := by
  have k : ∀ i, w'.cell? ⟨b, i, none⟩ = w.cell? ⟨b, i, none⟩ := fun i => World.cell?_of_block (a := ⟨b, i, none⟩) hb
  exact ⟨(k _).trans h.k0, (k _).trans h.k1, (k _).trans h.k2, (k _).trans h.k3, (k _).trans h.k4, (k _).trans h.k5, (k _).trans h.k6, (k _).trans h.k7, (k _).trans h.k8, (k _).trans h.k9⟩
structure RoAt (w : World) (b o : Nat) (e : Ro) : Prop where
  k0 : w.cell? ⟨b, o, none⟩ = some (.int .u32 (e.a : Int))
  k1 : w.cell? ⟨b, o + 1, none⟩ = some (.int .u8 (e.n : Int))
  k2 : w.cell? ⟨b, o + 2, none⟩ = some (.int .i64 (e.v : Int))
  k3 : w.cell? ⟨b, o + 3, none⟩ = some (.int .u16 (e.m : Int))
  k4 : w.cell? ⟨b, o + 4, none⟩ = some (.int .u16 (e.s : Int))
theorem RoAt.of {w : World} {b o : Nat} {e : Ro} (h : ∀ i, i < 5 → w.cell? ⟨b, o + i, none⟩ = (Ro.cl e)[i]?) : RoAt w b o e := ⟨h 0 (by decide), h 1 (by decide), h 2 (by decide), h 3 (by decide), h 4 (by decide)⟩
theorem RoAt.keep {w w' : World} {b o : Nat} {e : Ro} (h : RoAt w b o e) (hb : w'.heap[b]? = w.heap[b]?) : RoAt w' b o e := by
  have k : ∀ i, w'.cell? ⟨b, i, none⟩ = w.cell? ⟨b, i, none⟩ := fun i => World.cell?_of_block (a := ⟨b, i, none⟩) hb
  exact ⟨(k _).trans h.k0, (k _).trans h.k1, (k _).trans h.k2, (k _).trans h.k3, (k _).trans h.k4⟩
structure PxAt (w : World) (b o : Nat) (e : Nat × Nat) : Prop where
  k0 : w.cell? ⟨b, o, none⟩ = some (.int .u32 (e.1 : Int))
  k1 : w.cell? ⟨b, o + 1, none⟩ = some (.int .u8 (e.2 : Int))
theorem PxAt.of {w : World} {b o : Nat} {e : Nat × Nat} (h : ∀ i, i < 2 → w.cell? ⟨b, o + i, none⟩ = (clP e)[i]?) : PxAt w b o e := ⟨h 0 (by decide), h 1 (by decide)⟩
theorem PxAt.keep {w w' : World} {b o : Nat} {e : Nat × Nat} (h : PxAt w b o e) (hb : w'.heap[b]? = w.heap[b]?) : PxAt w' b o e := by
  have k : ∀ i, w'.cell? ⟨b, i, none⟩ = w.cell? ⟨b, i, none⟩ := fun i => World.cell?_of_block (a := ⟨b, i, none⟩) hb
  exact ⟨(k _).trans h.k0, (k _).trans h.k1⟩
structure NbAt (w : World) (b o : Nat) (e : Nat × Nat) : Prop where
  k0 : w.cell? ⟨b, o, none⟩ = some (.int .i64 (e.1 : Int))
  k1 : w.cell? ⟨b, o + 1, none⟩ = some (.pointer (some ⟨e.2, 0, none⟩))
theorem NbAt.of {w : World} {b o : Nat} {e : Nat × Nat} (h : ∀ i, i < 2 → w.cell? ⟨b, o + i, none⟩ = (nbC e)[i]?) : NbAt w b o e := ⟨h 0 (by decide), h 1 (by decide)⟩
theorem NbAt.keep {w w' : World} {b o : Nat} {e : Nat × Nat} (h : NbAt w b o e) (hb : w'.heap[b]? = w.heap[b]?) : NbAt w' b o e := by
  have k : ∀ i, w'.cell? ⟨b, i, none⟩ = w.cell? ⟨b, i, none⟩ := fun i => World.cell?_of_block (a := ⟨b, i, none⟩) hb
  exact ⟨(k _).trans h.k0, (k _).trans h.k1⟩
set_option maxHeartbeats 1000000 in
theorem idxfHm_any (w : World) (A : Option Addr) (n c : Nat) (L : List (Hm)) (hn : n = L.length) (hlen : n ≤ 1000) (hsl : GSl 3 Hm.cl w A L) (p : Hm → Bool) (g xb : Nat) (eg : ∀ args w, (callFunc g args).run Tryz.prog w = .ok (.enter g args) w)
    (hp : ∀ (W : World) (e : Hm), Below w.heap.size w W → e ∈ L → Calls Tryz.prog g #[.agg #[.int .u32 (e.a : Int), .int .u8 (e.n : Int), .int .u16 (e.s : Int)], .pointer (some ⟨xb, 0, none⟩)] W fun en w' => en = .returned (.bool (p e)) ∧ Below W.heap.size W w') :
    Calls Tryz.prog 113 #[.slice A n c, .func (.func g) #[] #[.pointer (some ⟨xb, 0, none⟩)]] w fun en w' => en = .returned (.int .i64 (gidx p L)) ∧ Below w.heap.size w w' := by
  have HH := Lib.hid (And.intro hn (And.intro hsl hp))
  clear hn hsl hp
  go_enter Tryz.func113, Tryz.ntmps113
  go_wp2
  go_loopw [5, 8] (fun _ i wr => ∃ j : Nat, j ≤ n ∧ i = .int .i64 j ∧ Hid (Below w.heap.size w wr ∧ ∀ k (hk : k < L.length), k < j → p L[k] = false)) (fun _ i _ => n - (intOf i).toNat)
  case atStart => exact ⟨0, Nat.zero_le _, rfl, Below.refl _ _, fun k hk h => absurd h (Nat.not_lt_zero _)⟩
  case round =>
    obtain ⟨j, hj, rfl, HR⟩ := hrel
    by_cases hlt : j < n
    · have hjl : j < L.length := by rw [← HH.out.1]; exact hlt
      obtain ⟨b, o, rfl, hb, hE0⟩ := (HH.out.2.1.below HR.out.1) j hjl
      have hE := HmAt.of hE0
      clear hE0
      have hcall := HH.out.2.2 wr L[j] HR.out.1 (List.getElem_mem hjl)
      have HX := Lib.hid (fun (h : p L[j] = true) => gidx_hit hjl h HR.out.2)
      have HY := Lib.hid (fun (h : p L[j] = false) (k : Nat) (hk : k < L.length) (hkj : k < j + 1) => show p L[k] = false by
        rcases Nat.lt_or_eq_of_le (Nat.lt_succ_iff.1 hkj) with h1 | h1
        · exact HR.out.2 k hk h1
        · subst h1; exact h)
      generalize L[j] = e at hE hcall HX HY
      obtain ⟨k0, k1, k2⟩ := hE
      cases hq : p e with
      | true =>
        rw [hq] at hcall
        have HV := Lib.hid (HX.out hq)
        clear HX HY hq
        go_wp2_with (go_at_fn g; refine hcall.mono ?_; rintro en w' ⟨rfl, hb'⟩)
        go_ret
        exact ⟨by rw [HV.out]; rfl, HR.out.1.trans (hb'.mono HR.out.1.size)⟩
      | false =>
        rw [hq] at hcall
        have HV := Lib.hid (HY.out hq)
        clear HX HY hq
        go_wp2_with (go_at_fn g; refine hcall.mono ?_; rintro en w' ⟨rfl, hb'⟩)
        go_roundw
        case rel => exact ⟨j + 1, by omega, by go_num, HR.out.1.trans (hb'.mono HR.out.1.size), HV.out⟩
        case measure => simp [intOf]; omega
    · obtain rfl : j = n := by omega
      have HV := Lib.hid (gidx_miss (p := p) (L := L) fun k hk => HR.out.2 k hk (by have := HH.out.1; omega))
      go_wp2
      go_ret
      exact ⟨by rw [HV.out]; rfl, HR.out.1⟩
set_option maxHeartbeats 1000000 in
theorem idxfPt_any (w : World) (A : Option Addr) (n c : Nat) (L : List (Pt)) (hn : n = L.length) (hlen : n ≤ 1000) (hsl : GSl 7 Pt.cl w A L) (p : Pt → Bool) (g xb : Nat) (eg : ∀ args w, (callFunc g args).run Tryz.prog w = .ok (.enter g args) w)
    (hp : ∀ (W : World) (e : Pt), Below w.heap.size w W → e ∈ L → Calls Tryz.prog g #[.agg #[.int .u8 (e.k : Int), .int .u64 (e.n : Int), .int .i64 (e.d : Int), .int .u32 (e.a : Int), .int .u8 (e.l : Int), .int .u16 (e.s : Int), .int .u16 (e.m : Int)], .pointer (some ⟨xb, 0, none⟩)] W fun en w' => en = .returned (.bool (p e)) ∧ Below W.heap.size W w') :
    Calls Tryz.prog 157 #[.slice A n c, .func (.func g) #[] #[.pointer (some ⟨xb, 0, none⟩)]] w fun en w' => en = .returned (.int .i64 (gidx p L)) ∧ Below w.heap.size w w' := by
  have HH := Lib.hid (And.intro hn (And.intro hsl hp))
  clear hn hsl hp
  go_enter Tryz.func157, Tryz.ntmps157
  go_wp2
  go_loopw [5, 8] (fun _ i wr => ∃ j : Nat, j ≤ n ∧ i = .int .i64 j ∧ Hid (Below w.heap.size w wr ∧ ∀ k (hk : k < L.length), k < j → p L[k] = false)) (fun _ i _ => n - (intOf i).toNat)
  case atStart => exact ⟨0, Nat.zero_le _, rfl, Below.refl _ _, fun k hk h => absurd h (Nat.not_lt_zero _)⟩
  case round =>
    obtain ⟨j, hj, rfl, HR⟩ := hrel
    by_cases hlt : j < n
    · have hjl : j < L.length := by rw [← HH.out.1]; exact hlt
      obtain ⟨b, o, rfl, hb, hE0⟩ := (HH.out.2.1.below HR.out.1) j hjl
      have hE := PtAt.of hE0
      clear hE0
      have hcall := HH.out.2.2 wr L[j] HR.out.1 (List.getElem_mem hjl)
      have HX := Lib.hid (fun (h : p L[j] = true) => gidx_hit hjl h HR.out.2)
      have HY := Lib.hid (fun (h : p L[j] = false) (k : Nat) (hk : k < L.length) (hkj : k < j + 1) => show p L[k] = false by
        rcases Nat.lt_or_eq_of_le (Nat.lt_succ_iff.1 hkj) with h1 | h1
        · exact HR.out.2 k hk h1
        · subst h1; exact h)
      generalize L[j] = e at hE hcall HX HY
      obtain ⟨k0, k1, k2, k3, k4, k5, k6⟩ := hE
      cases hq : p e with
      | true =>
        rw [hq] at hcall
        have HV := Lib.hid (HX.out hq)
        clear HX HY hq
        go_wp2_with (go_at_fn g; refine hcall.mono ?_; rintro en w' ⟨rfl, hb'⟩)
        go_ret
        exact ⟨by rw [HV.out]; rfl, HR.out.1.trans (hb'.mono HR.out.1.size)⟩
      | false =>
        rw [hq] at hcall
        have HV := Lib.hid (HY.out hq)
        clear HX HY hq
        go_wp2_with (go_at_fn g; refine hcall.mono ?_; rintro en w' ⟨rfl, hb'⟩)
        go_roundw
        case rel => exact ⟨j + 1, by omega, by go_num, HR.out.1.trans (hb'.mono HR.out.1.size), HV.out⟩
        case measure => simp [intOf]; omega
    · obtain rfl : j = n := by omega
      have HV := Lib.hid (gidx_miss (p := p) (L := L) fun k hk => HR.out.2 k hk (by have := HH.out.1; omega))
      go_wp2
      go_ret
      exact ⟨by rw [HV.out]; rfl, HR.out.1⟩
theorem contPt_any (w : World) (A : Option Addr) (n c : Nat) (L : List (Pt)) (hn : n = L.length) (hlen : n ≤ 1000) (hsl : GSl 7 Pt.cl w A L) (p : Pt → Bool) (g xb : Nat) (eg : ∀ args w, (callFunc g args).run Tryz.prog w = .ok (.enter g args) w)
    (hp : ∀ (W : World) (e : Pt), Below w.heap.size w W → e ∈ L → Calls Tryz.prog g #[.agg #[.int .u8 (e.k : Int), .int .u64 (e.n : Int), .int .i64 (e.d : Int), .int .u32 (e.a : Int), .int .u8 (e.l : Int), .int .u16 (e.s : Int), .int .u16 (e.m : Int)], .pointer (some ⟨xb, 0, none⟩)] W fun en w' => en = .returned (.bool (p e)) ∧ Below W.heap.size W w') :
    Calls Tryz.prog 125 #[.slice A n c, .func (.func g) #[] #[.pointer (some ⟨xb, 0, none⟩)]] w fun en w' => en = .returned (.bool (L.any p)) ∧ Below w.heap.size w w' := by
  have c60 := idxfPt_any w A n c L hn hlen hsl p g xb eg hp
  have hge := gidx_ge (p := p) (L := L)
  obtain ⟨z, hz⟩ : ∃ z, z = gidx p L := ⟨_, rfl⟩
  rw [← hz] at c60 hge
  have HC := Lib.hid c60
  have HG := Lib.hid hge
  clear c60 hge hz hn hsl hp eg
  go_enter Tryz.func125, Tryz.ntmps125
  go_wp2_with (go_at_call 157; (with_reducible refine HC.out.mono ?_); rintro en w' ⟨rfl, B⟩)
  go_ret
  exact ⟨by rw [← HG.out]; rfl, B⟩
end Go.Proofs.YtjbogjbopgcbhaaGreatDoor.Eg
namespace Go.Proofs.YtjbogjbopgcbhaaGreatDoor.Eg
open Pre Ser Rts
open Go.Proofs.YtjbogjbopgcbhaaGreatDoor.Src (row1 row2 Mk SrcAt)
open Go.Proofs.YtjbogjbopgcbhaaGreatDoor.Lk (LkAt)
open Go.ChangeShapes Go.WideShapes Go.ChangeAt Go.RowKit
set_option maxRecDepth 8000
set_option linter.unusedVariables false
set_option linter.unusedSimpArgs false
def Hm.is (a n : Nat) (e : Hm) : Bool := e.a == a && e.n == n
def Pt.of (a n : Nat) (e : Pt) : Bool := e.a == a && e.l == n
theorem homep_any (W : World) (e : Hm) (xb a n : Nat) (hx : W.heap[xb]? = some (.cells #[.int .u32 (a : Int), .int .u8 (n : Int)] 30 (0, 0))) :
    Calls Tryz.prog 114 #[.agg #[.int .u32 (e.a : Int), .int .u8 (e.n : Int), .int .u16 (e.s : Int)], .pointer (some ⟨xb, 0, none⟩)] W fun en w' => en = .returned (.bool (e.is a n)) ∧ Below W.heap.size W w' := by
  have hxl := (Array.getElem?_eq_some_iff.1 hx).1
  obtain ⟨p0, p1, -⟩ := row2 hx
  clear hx
  go_enter Tryz.func114, Tryz.ntmps114
  go_wp2
  all_goals
    go_ret
    refine ⟨Ser.ret_bool ?_, (Below.refl _ _).alloc (Nat.le_refl _) _⟩
    unfold Hm.is
    rw [Bool.eq_iff_iff]; simp; omega
theorem askp_any (W : World) (e : Pt) (xb a n : Nat) (hx : W.heap[xb]? = some (.cells #[.int .u32 (a : Int), .int .u8 (n : Int)] 30 (0, 0))) :
    Calls Tryz.prog 126 #[.agg #[.int .u8 (e.k : Int), .int .u64 (e.n : Int), .int .i64 (e.d : Int), .int .u32 (e.a : Int), .int .u8 (e.l : Int), .int .u16 (e.s : Int), .int .u16 (e.m : Int)], .pointer (some ⟨xb, 0, none⟩)] W fun en w' => en = .returned (.bool (e.of a n)) ∧ Below W.heap.size W w' := by
  have hxl := (Array.getElem?_eq_some_iff.1 hx).1
  obtain ⟨p0, p1, -⟩ := row2 hx
  clear hx
  go_enter Tryz.func126, Tryz.ntmps126
  go_wp2
  all_goals
    go_ret
    refine ⟨Ser.ret_bool ?_, (Below.refl _ _).alloc (Nat.le_refl _) _⟩
    unfold Pt.of
    rw [Bool.eq_iff_iff]; simp; omega
theorem findp_any (W : World) (x y n : Nat) : Calls Tryz.prog 116 #[.agg #[.int .i64 (x : Int), .pointer (some ⟨y, 0, none⟩)], .int .i64 (n : Int)] W fun en w' => en = .returned (.int .i64 (cmpV x n)) ∧ Below W.heap.size W w' := by
  have c := fun w => cmpi_any x n w
  have HC := Lib.hid c
  clear c
  go_enter Tryz.func116, Tryz.ntmps116
  go_wp2_with (go_at_call 117; (with_reducible refine (HC.out _).mono ?_); rintro en w' ⟨rfl, rfl⟩)
  go_ret
  exact ⟨rfl, (Below.refl _ _).alloc (Nat.le_refl _) _⟩
theorem routep_any (W : World) (e : Ro) (a n : Nat) : Calls Tryz.prog 54 #[.agg #[.int .u32 (e.a : Int), .int .u8 (e.n : Int), .int .i64 (e.v : Int), .int .u16 (e.m : Int), .int .u16 (e.s : Int)], .agg #[.int .u32 (a : Int), .int .u8 (n : Int)]] W fun en w' => en = .returned (.int .i64 (cmpP e.a e.n a n)) ∧ Below W.heap.size W w' := by
  have HC := Lib.hid (fun w => compare_any e.a e.n a n w)
  have B0 := ((Below.refl W.heap.size W).alloc (Nat.le_refl _) (.cells #[.int .u32 (e.a : Int), .int .u8 (e.n : Int), .int .i64 (e.v : Int), .int .u16 (e.m : Int), .int .u16 (e.s : Int)] 40)).alloc (by simp) (.cells #[.int .u32 (a : Int), .int .u8 (n : Int)] 30)
  go_enter Tryz.func54, Tryz.ntmps54
  go_wp2_with (go_at_call 50; (with_reducible refine (HC.out _).mono ?_); rintro en w' ⟨rfl, B⟩)
  go_ret
  exact ⟨rfl, B0.trans (B.mono B0.size)⟩
end Go.Proofs.YtjbogjbopgcbhaaGreatDoor.Eg
namespace Go.Proofs.YtjbogjbopgcbhaaGreatDoor.Eg
open Pre Ser Rts
open Go.Proofs.YtjbogjbopgcbhaaGreatDoor.Src (row1 row2 Mk SrcAt)
open Go.Proofs.YtjbogjbopgcbhaaGreatDoor.Lk (LkAt)
open Go.ChangeShapes Go.WideShapes Go.ChangeAt Go.RowKit
set_option maxRecDepth 8000
set_option linter.unusedVariables false
set_option linter.unusedSimpArgs false
structure EC (w : World) (q : Nat) (e : Eng) (m : Mem) : Prop where
  c0 : w.cell? ⟨q, 0, none⟩ = some (.int .i64 (e.id : Int))
  c1 : w.cell? ⟨q, 1, none⟩ = some m.vo
  c2 : w.cell? ⟨q, 2, none⟩ = some (.pointer (some ⟨m.qs, 0, none⟩))
  c3 : w.cell? ⟨q, 3, none⟩ = some (.pointer (some ⟨m.qr, 0, none⟩))
  c4 : w.cell? ⟨q, 4, none⟩ = some m.vn
  c5 : w.cell? ⟨q, 5, none⟩ = some m.vc
  c6 : w.cell? ⟨q, 6, none⟩ = some (.int .i64 (e.bad : Int))
  c7 : w.cell? ⟨q, 7, none⟩ = some (.int .i64 (e.st : Int))
  c8 : w.cell? ⟨q, 8, none⟩ = some (.int .i64 (e.fu : Int))
  c9 : w.cell? ⟨q, 9, none⟩ = some (.int .i64 (e.nr : Int))
  c10 : w.cell? ⟨q, 10, none⟩ = some (.int .u64 (e.he : Int))
  c11 : w.cell? ⟨q, 11, none⟩ = some (.bool e.due)
  c12 : w.cell? ⟨q, 12, none⟩ = some m.vl
  c13 : w.cell? ⟨q, 13, none⟩ = some m.vr
  fz : ∀ j, w.frozen? ⟨q, j, none⟩ = false
theorem EngAt.ec {lo : Nat} {w : World} {q : Nat} {e : Eng} {m : Mem} (h : EngAt lo w q e m) : EC w q e m := by
  have f : ∀ i v, (e.row m)[i]? = some v → w.cell? ⟨q, i, none⟩ = some v := fun i v hv => by rw [cell_of_row w q i _ 95 (0, 0) h.row, hv]
  exact ⟨f 0 _ rfl, f 1 _ rfl, f 2 _ rfl, f 3 _ rfl, f 4 _ rfl, f 5 _ rfl, f 6 _ rfl, f 7 _ rfl, f 8 _ rfl, f 9 _ rfl, f 10 _ rfl, f 11 _ rfl, f 12 _ rfl, f 13 _ rfl, fun j => frozen_of_row w q j _ 95 h.row⟩
theorem EC.below {w w' : World} {q : Nat} {e : Eng} {m : Mem} (h : EC w q e m) (hq : q < w.heap.size) (B : Below w.heap.size w w') : EC w' q e m := by
  have k : ∀ i, w'.cell? ⟨q, i, none⟩ = w.cell? ⟨q, i, none⟩ := fun i => (Ser.bcell B).1 q i hq
  exact ⟨(k _).trans h.c0, (k _).trans h.c1, (k _).trans h.c2, (k _).trans h.c3, (k _).trans h.c4, (k _).trans h.c5, (k _).trans h.c6, (k _).trans h.c7, (k _).trans h.c8, (k _).trans h.c9, (k _).trans h.c10, (k _).trans h.c11, (k _).trans h.c12, (k _).trans h.c13, fun j => ((Ser.bcell B).2 q j hq).trans (h.fz j)⟩
theorem home_none (w : World) (lo q : Nat) (e : Eng) (m : Mem) (h : EngAt lo w q e m) (a n : Nat) (hlen : e.own.length ≤ 1000) (hno : e.own.any (Hm.is a n) = false) :
    Calls Tryz.prog 74 #[.pointer (some ⟨q, 0, none⟩), .agg #[.int .u32 (a : Int), .int .u8 (n : Int)]] w fun en w' => en = .returned (.pointer none) ∧ Below w.heap.size w w' := by
  obtain ⟨A, c, hv, -, hs, -⟩ := gsl_of h.p.own (fun _ => rfl)
  have B1 := (Below.refl w.heap.size w).alloc (Nat.le_refl _) (.cells #[.int .u32 (a : Int), .int .u8 (n : Int)] 30)
  have r1 := heap_alloc_new w (.cells #[.int .u32 (a : Int), .int .u8 (n : Int)] 30)
  have hi := idxfHm_any _ A e.own.length c e.own rfl hlen (hs.below B1) (Hm.is a n) 114 w.heap.size (enters_of Tryz.func114 (by kernel_rfl) rfl) (fun W x B _ => homep_any W x _ a n (brow B r1))
  have hz : gidx (Hm.is a n) e.own = -1 := by unfold gidx; rw [if_neg (by rw [hno]; decide)]
  rw [hz] at hi
  have c1 := h.ec.c1
  rw [hv] at c1
  have hql := h.lt
  have HI := Lib.hid (And.intro hi B1)
  clear hi B1 r1 hz hs hv hno h
  go_enter Tryz.func74, Tryz.ntmps74
  go_wp2_with (go_at_call 113; (with_reducible refine HI.out.1.mono ?_); rintro en w' ⟨rfl, B⟩)
  go_ret
  exact ⟨rfl, HI.out.2.trans (B.mono HI.out.2.size)⟩
theorem home_some (w : World) (lo q : Nat) (e : Eng) (m : Mem) (h : EngAt lo w q e m) (a n : Nat) (hlen : e.own.length ≤ 1000) (i b : Nat) (hb : m.vo.ownBlock = some b) (hi0 : gidx (Hm.is a n) e.own = (i : Int)) (hil : i < e.own.length) :
    Calls Tryz.prog 74 #[.pointer (some ⟨q, 0, none⟩), .agg #[.int .u32 (a : Int), .int .u8 (n : Int)]] w fun en w' => en = .returned (.pointer (some ⟨b, i * 3, none⟩)) ∧ Below w.heap.size w w' := by
  obtain ⟨A, c, hv, -, hs, hA⟩ := gsl_of h.p.own (fun _ => rfl)
  have B1 := (Below.refl w.heap.size w).alloc (Nat.le_refl _) (.cells #[.int .u32 (a : Int), .int .u8 (n : Int)] 30)
  have r1 := heap_alloc_new w (.cells #[.int .u32 (a : Int), .int .u8 (n : Int)] 30)
  have hi := idxfHm_any _ A e.own.length c e.own rfl hlen (hs.below B1) (Hm.is a n) 114 w.heap.size (enters_of Tryz.func114 (by kernel_rfl) rfl) (fun W x B _ => homep_any W x _ a n (brow B r1))
  rw [hi0] at hi
  obtain ⟨b', o', e1, -, -⟩ := hs i hil
  obtain ⟨e2, e3⟩ := hA b' o' e1
  rw [hb] at e2
  injection e2 with e2
  subst e2 e3
  subst e1
  have c1 := h.ec.c1
  rw [hv] at c1
  have hql := h.lt
  have c1' : ∀ w', Below w.heap.size w w' → w'.cell? ⟨q, 1, none⟩ = some (.slice (some ⟨b, 0, none⟩) e.own.length c) := fun w' B => ((Ser.bcell B).1 q 1 hql).trans c1
  obtain ⟨N, hN⟩ : ∃ N, N = e.own.length := ⟨_, rfl⟩
  rw [← hN] at hi c1 c1' hil
  have HI := Lib.hid (And.intro hi (And.intro B1 c1'))
  clear hi B1 r1 hs hv hi0 h hN hlen hA hb c1'
  have hi2 : ¬ ((i : Int) < 0) := by omega
  go_enter Tryz.func74, Tryz.ntmps74
  go_wp2_with (go_at_call 113; (with_reducible refine HI.out.1.mono ?_); rintro en w' ⟨rfl, B⟩; have HB := Lib.hid (HI.out.2.1.trans (B.mono HI.out.2.1.size)); clear B; have c2 := HI.out.2.2 w' HB.out; clear c1)
  go_ret
  exact ⟨rfl, HB.out⟩
end Go.Proofs.YtjbogjbopgcbhaaGreatDoor.Eg
