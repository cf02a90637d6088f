/- A router: what it hears, plainly; a link of it is another one. A router hears a packet. A router that begins. New: a router of some prefixes of its own. -/
import Derived.Test.YtjbogjbopgcbhaaGreatDoorYH
namespace Go.Proofs.YtjbogjbopgcbhaaGreatDoor.Eg
open Pre Ser Rts
open Go.Proofs.YtjbogjbopgcbhaaGreatDoor.Src (row1 row2 Mk SrcAt)
open Go.Proofs.YtjbogjbopgcbhaaGreatDoor.Lk (LkAt)
open Go.ChangeShapes Go.WideShapes Go.ChangeAt Go.RowKit
set_option maxRecDepth 8000
set_option linter.unusedVariables false
set_option linter.unusedSimpArgs false
def Eng.link (e : Eng) (x : Nat) (g : Lk.L → Lk.L) : Eng := { e with nb := e.nb.map fun y => if y.1 = x then (y.1, g y.2) else y }
def Eng.knows (e : Eng) (a n s : Nat) : Bool := e.ch.any fun r => r.pk == a * 256 + n && (r.s == s || newer (r.s : Int) (s : Int))
def Hm.next (h : Hm) (s : Nat) : Hm := if newer (s : Int) (h.s : Int) then { h with s := (h.s + 1) % 65536 } else h
def Eng.req (e : Eng) (x : Pt) : Eng :=
  if e.isOwn x.a x.l then { e with own := e.own.modify (e.own.findIdx (Hm.is x.a x.l)) (fun h => h.next x.s), due := true }
  else if e.knows x.a x.l x.s then { e with due := true }
  else if x.n = 0 then e else e.ask x.a x.l x.s (x.n - 1)
def Eng.part (b now : Nat) (e : Eng) (x : Pt) : Eng :=
  if x.k = 1 then e.link b (fun l => l.hello x.n now)
  else if x.k = 2 then (if x.d = e.id then e.link b (fun l => l.heard x.m now) else e)
  else if x.k = 3 then e.upd b now x
  else if x.k = 4 then e.req x
  else e
def Eng.hear (b st now : Nat) (e : Eng) (xs : List Pt) : Eng := if b = e.id then e else xs.foldl (Eng.part b now) (({ e with st := e.st + st } : Eng).meet b now)
theorem hello_ok {l : Lk.L} (h : l.Ok) {n now : Nat} (hn : n < 4611686018427387904) (hnow : now ≤ 4611686018427387000) : (l.hello n now).Ok := by
  obtain ⟨h1, h2⟩ := Lk.sh_even l.c (l.steps n) (Lk.steps_pos l n)
  exact ⟨by show Lk.sh l.c (l.steps n) + 1 < 65536; omega, by show n ≤ _; omega, by show now + 6 ≤ _; omega, h.t, h.h⟩
theorem heard_ok {l : Lk.L} (h : l.Ok) {c now : Nat} (hc : c < 65536) (hnow : now ≤ 4611686018427387000) : (l.heard c now).Ok :=
  ⟨h.c, h.n, h.m, by show max c 1 < 65536; omega, by show now + 20 ≤ _; omega⟩
theorem new_ok {now : Nat} (hnow : now ≤ 4611686018427387000) : (Lk.L.new now).Ok := ⟨by show 0 < 65536; decide, by show 0 ≤ _; omega, by show now + 6 ≤ _; omega, by show 65535 < 65536; decide, by show 0 ≤ _; omega⟩
theorem Eng.Ok.link {e : Eng} (h : e.Ok) (x : Nat) (g : Lk.L → Lk.L) (hg : ∀ l : Lk.L, l.Ok → (g l).Ok) : (e.link x g).Ok := by
  have hf : ∀ y : Nat × Lk.L, (if y.1 = x then (y.1, g y.2) else y).1 = y.1 := fun y => by split <;> rfl
  refine ⟨h.idl, ?_, by show (e.nb.map _).length ≤ 100; rw [List.length_map]; exact h.nbl, fun y hy => ?_, h.ri, h.lok, h.lle, h.chu, h.cho, h.chl, h.owo, h.owl, h.lou, h.loo, h.lol, h.rql, h.cl, h.cts⟩
  · show GUp (fun y : Nat × Lk.L => y.1) (e.nb.map _)
    unfold GUp
    rw [List.pairwise_map]
    exact h.nbu.imp fun {a b} hab => by show (if a.1 = x then _ else a).1 < (if b.1 = x then _ else b).1; rw [hf, hf]; exact hab
  · obtain ⟨z, hz, rfl⟩ := List.mem_map.1 hy
    have := h.nbk z hz
    rw [hf]
    refine ⟨?_, this.2⟩
    split
    · exact hg _ this.1
    · exact this.1
theorem tellL_ok {L : List E} (hr : Rising L) (hL : ∀ e ∈ L, e.Ok) {b now : Nat} {x : Pt} (hx : x.Ok) (hb : b < 16) (hnow : now < 4000000000000000000) : Rising (tellL L b now x) ∧ (∀ e ∈ tellL L b now x, e.Ok) ∧ (tellL L b now x).length ≤ L.length + 1 := by
  unfold tellL
  split
  · exact ⟨filter_rising hr _, fun e he => hL e (List.mem_filter.1 he).1, Nat.le_succ_of_le (List.length_filter_le _ _)⟩
  · rename_i hm
    refine ⟨putE_rising hr _, fun e he => ?_, ?_⟩
    · rcases (putE_mem hr _ e).1 he with rfl | ⟨he, -⟩
      · exact ⟨hx.a, hx.l, hb, hx.d, hx.s, by have := hx.m; show x.m < 65535; omega, by show now + 50 < _; omega⟩
      · exact hL e he
    · rw [putE_length]; split <;> omega
theorem Eng.Ok.upd {e : Eng} (h : e.Ok) {b now : Nat} {x : Pt} (hx : x.Ok) (hb : b < 16) (hnow : now < 4000000000000000000) (hl : e.L.length ≤ 199) : (e.upd b now x).Ok ∧ (e.upd b now x).L.length ≤ e.L.length + 1 := by
  unfold Eng.upd
  split
  · exact ⟨h, Nat.le_succ _⟩
  · obtain ⟨h1, h2, h3⟩ := tellL_ok h.ri h.lok hx hb hnow
    exact ⟨⟨h.idl, h.nbu, h.nbl, h.nbk, h1, h2, by show (tellL _ _ _ _).length ≤ 200; omega, h.chu, h.cho, h.chl, h.owo, h.owl, h.lou, h.loo, h.lol, h.rql, h.cl, h.cts⟩, h3⟩
theorem Eng.Ok.ask {e : Eng} (h : e.Ok) (a n s k : Nat) : (e.ask a n s k).Ok := by
  unfold Eng.ask
  split
  · rename_i hc
    exact ⟨h.idl, h.nbu, h.nbl, h.nbk, h.ri, h.lok, h.lle, h.chu, h.cho, h.chl, h.owo, h.owl, h.lou, h.loo, h.lol, by show (e.rq ++ [_]).length ≤ 16; rw [List.length_append]; have := hc.2; simp; omega, h.cl, h.cts⟩
  · exact h
theorem Eng.Ok.ins {e : Eng} (h : e.Ok) {x : Nat} {l : Lk.L} (hx : x < 16) (hl : l.Ok) (hno : ∀ y ∈ e.nb, y.1 ≠ x) (hn : e.nb.length ≤ 99) : (e.ins x l).Ok := by
  have hp := gpos_le (fun y : Nat × Lk.L => y.1) x e.nb
  refine ⟨h.idl, ?_, ?_, fun y hy => ?_, h.ri, h.lok, h.lle, h.chu, h.cho, h.chl, h.owo, h.owl, h.lou, h.loo, h.lol, h.rql, h.cl, h.cts⟩
  · show GUp (fun y : Nat × Lk.L => y.1) (e.nb.take _ ++ (x, l) :: e.nb.drop _)
    unfold GUp
    rw [List.pairwise_append]
    refine ⟨List.Pairwise.sublist (List.take_sublist _ _) h.nbu, List.pairwise_cons.2 ⟨fun y hy => ?_, List.Pairwise.sublist (List.drop_sublist _ _) h.nbu⟩, fun y hy z hz => ?_⟩
    · obtain ⟨j, hj, rfl⟩ := List.getElem_of_mem hy
      rw [List.length_drop] at hj
      rw [List.getElem_drop]
      have h1 := gpos_ge h.nbu (x := x) (l := gpos (fun y : Nat × Lk.L => y.1) x e.nb + j) (by omega) (by omega)
      have h2 := hno _ (List.getElem_mem (l := e.nb) (n := gpos (fun y : Nat × Lk.L => y.1) x e.nb + j) (by omega))
      have h1 : x ≤ (e.nb[gpos (fun y : Nat × Lk.L => y.1) x e.nb + j]'(by omega)).1 := h1
      exact Nat.lt_of_le_of_ne h1 (Ne.symm h2)
    · obtain ⟨j, hj, rfl⟩ := List.getElem_of_mem hy
      rw [List.length_take] at hj
      rw [List.getElem_take]
      have h1 : (e.nb[j]'(by omega)).1 < x := gpos_lt (κ := fun y : Nat × Lk.L => y.1) (x := x) (L := e.nb) (l := j) (by omega) (by omega)
      rcases List.mem_cons.1 hz with rfl | hz
      · exact h1
      · obtain ⟨i, hi, rfl⟩ := List.getElem_of_mem hz
        rw [List.length_drop] at hi
        rw [List.getElem_drop]
        have h2 := gpos_ge h.nbu (x := x) (l := gpos (fun y : Nat × Lk.L => y.1) x e.nb + i) (by omega) (by omega)
        have h2 : x ≤ (e.nb[gpos (fun y : Nat × Lk.L => y.1) x e.nb + i]'(by omega)).1 := h2
        exact Nat.lt_of_lt_of_le h1 h2
  · show (e.nb.take _ ++ (x, l) :: e.nb.drop _).length ≤ 100
    simp only [List.length_append, List.length_take, List.length_cons, List.length_drop]; omega
  · change y ∈ e.nb.take _ ++ (x, l) :: e.nb.drop _ at hy
    rcases List.mem_append.1 hy with hy | hy
    · exact h.nbk y (List.mem_of_mem_take hy)
    · rcases List.mem_cons.1 hy with rfl | hy
      · exact ⟨hl, hx⟩
      · exact h.nbk y (List.mem_of_mem_drop hy)
theorem Eng.Ok.meet {e : Eng} (h : e.Ok) {x now : Nat} (hx : x < 16) (hnow : now ≤ 4611686018427387000) (hn : e.nb.length ≤ 99) : (e.meet x now).Ok := by
  unfold Eng.meet
  split
  · exact h
  · rename_i hc
    exact h.ins hx (new_ok hnow) (fun y hy hyx => hc (List.any_eq_true.2 ⟨y, hy, by simpa using hyx⟩)) hn
theorem EngAt.lk {lo : Nat} {w w' : World} {q : Nat} {e : Eng} {m : Mem} (h : EngAt lo w q e m) (hu : GUp (fun x : Nat × Lk.L => x.1) e.nb) {i b x : Nat} {l : Lk.L} {g : Lk.L → Lk.L} (hi : e.nb[i]? = some (x, l)) (hb : m.ls[i]? = some b) (hl : LkAt w' b (g l)) (G : w.grownBy w' (some b)) : ES lo w q m (e.link x g) w' ∧ EngAt lo w' q (e.link x g) m := by
  obtain ⟨hil, hie⟩ := List.getElem?_eq_some_iff.1 hi
  obtain ⟨hbl, hbe⟩ := List.getElem?_eq_some_iff.1 hb
  have F : Fr (fun k => k = b) w w' := Fr.grown G (fun k e => (Option.some.inj e).symm)
  have hbm : b ∈ m.ls := List.mem_of_getElem? hb
  obtain ⟨l0, hb0, hlb⟩ := h.p.lk hbm
  have hf : ∀ y : Nat × Lk.L, (if y.1 = x then (y.1, g y.2) else y).1 = y.1 := fun y => by split <;> rfl
  have hR : ∀ {k : Nat} {y : Array Value} {t : TypeId}, w.heap[k]? = some (.cells y t (0, 0)) → t ≠ 140 → ¬ k = b := fun hk ht e9 => by
    subst e9
    unfold LkAt at hlb
    rw [hk] at hlb; injection hlb with hlb; injection hlb with _ hlb _; exact ht hlb
  have hG : ∀ {α : Type} {t : TypeId} {j : Nat} {cl : α → List Value} {v : Value} {l : List α}, GOwn t j cl w lo v l → t ≠ 140 → GOwn t j cl w' lo v l := fun hg ht => gfr hg F fun k hk => by
    obtain ⟨-, cur, hc⟩ := hg.lt hk
    exact hR hc ht
  obtain ⟨-, vs, hrs, -⟩ := h.p.src
  have hp : EngAt lo w' q (e.link x g) m := by
    refine ⟨F.row h.row (hR h.row (by decide)), h.le, ⟨hG h.p.own (by decide), srcfr h.p.src F (hR hrs (by decide)) (fun k es cl hk e9 => ?_), h.p.rts.fr F (hR h.p.rts.row (by decide)) (fun k hk => ?_), ?_, by rw [h.p.lsl]; show _ = (e.nb.map _).length; rw [List.length_map], fun y hy => ?_, h.p.nd, hG h.p.ch (by decide), hG h.p.lost (by decide), hG h.p.rq (by decide), tabfr (lo := lo) h.p.tab F (fun e9 => by have := h.p.lo0; omega), h.p.lo0⟩⟩
    · subst e9
      unfold LkAt at hlb
      rw [hk] at hlb; cases hlb
    · obtain ⟨-, cur, hc⟩ := GOwn.lt (t := 173) (k := 7) (cl := E.cl) h.p.rts.own hk
      exact hR hc (by decide)
    · show GOwn 121 2 nbC w' lo m.vn (List.zip ((e.nb.map fun y : Nat × Lk.L => if y.1 = x then (y.1, g y.2) else y).map (fun y => y.1)) m.ls)
      rw [List.map_map, show ((fun y : Nat × Lk.L => y.1) ∘ fun y : Nat × Lk.L => if y.1 = x then (y.1, g y.2) else y) = (fun y => y.1) from funext hf]
      exact hG h.p.nbs (by decide)
    · change y ∈ List.zip (e.nb.map _) m.ls at hy
      obtain ⟨j, hj, rfl⟩ := List.getElem_of_mem hy
      rw [List.length_zip, List.length_map] at hj
      have hj1 : j < e.nb.length := by omega
      have hj2 : j < m.ls.length := by omega
      rw [List.getElem_zip, List.getElem_map]
      have hz : j < (List.zip e.nb m.ls).length := by rw [List.length_zip]; omega
      have h0 := h.p.lks _ (List.getElem_mem hz)
      rw [List.getElem_zip] at h0
      by_cases hji : j = i
      · subst hji
        refine ⟨h0.1, ?_⟩
        show LkAt w' m.ls[j] _
        rw [hbe]
        have : (e.nb[j]).1 = x ∧ (e.nb[j]).2 = l := by rw [hie]; exact ⟨rfl, rfl⟩
        rw [if_pos this.1]
        show LkAt w' b (g (e.nb[j]).2)
        rw [this.2]
        exact hl
      · have hne : (e.nb[j]).1 ≠ x := fun e9 => by
          have h1 : (e.nb[i]).1 = x := by rw [hie]
          rcases Nat.lt_or_gt_of_ne hji with h2 | h2
          · have := hu.get h2 hil; omega
          · have := hu.get h2 hj1; omega
        rw [if_neg hne]
        refine ⟨h0.1, h0.2.keep (F.block _ h0.2.lt fun e9 => hji ?_)⟩
        have e9 : m.ls[j] = m.ls[i] := by rw [hbe]; exact e9
        exact (List.getElem_inj h.p.nd).1 e9
  refine ⟨⟨m, hp, Ef.frm F h.los (fun k hk => by subst hk; exact hb0) (fun k hk => by subst hk; exact .inr (.inr (.inr (.inl hbm)))), fun k hk => Or.inl hk, rfl⟩, hp⟩
end Go.Proofs.YtjbogjbopgcbhaaGreatDoor.Eg
namespace Go.Proofs.YtjbogjbopgcbhaaGreatDoor.Eg
open Pre Ser Rts
open Go.Proofs.YtjbogjbopgcbhaaGreatDoor.Src (row1 row2 Mk SrcAt)
open Go.Proofs.YtjbogjbopgcbhaaGreatDoor.Lk (LkAt)
open Go.ChangeShapes Go.WideShapes Go.ChangeAt Go.RowKit
set_option maxRecDepth 8000
set_option linter.unusedVariables false
set_option linter.unusedSimpArgs false
structure HearI (lo : Nat) (w0 : World) (q : Nat) (m : Mem) (b z : Nat) (e : Eng) (wr : World) : Prop where
  ex : ∃ m', EngAt lo wr q e m' ∧ Ef lo (m.X q) w0 wr ∧ (∀ k, m'.X q k → m.X q k ∨ w0.heap.size ≤ k) ∧ ∃ (i : Nat) (l : Lk.L), e.nb[i]? = some (b, l) ∧ m'.ls[i]? = some z
  ok : e.Ok
theorem HearI.step {lo : Nat} {w0 wr w' : World} {q : Nat} {m : Mem} {b z : Nat} {e : Eng} (h : HearI lo w0 q m b z e wr) (B : Below wr.heap.size wr w') : HearI lo w0 q m b z e w' := by
  obtain ⟨⟨m', a, f, g, r⟩, ok⟩ := h
  exact ⟨⟨m', a.step B, f.trans (Y := m.X q) (Ef.of B a.los) (fun k hk => Or.inl hk), g, r⟩, ok⟩
theorem HearI.es {lo : Nat} {w0 wr w' : World} {q : Nat} {m : Mem} {b z : Nat} {e e' : Eng} (h : HearI lo w0 q m b z e wr) (hs : ∀ m', EngAt lo wr q e m' → ES lo wr q m' e' w') (hn : ∀ (i : Nat) (l : Lk.L), e.nb[i]? = some (b, l) → ∃ l' : Lk.L, e'.nb[i]? = some (b, l')) (ok : e'.Ok) : HearI lo w0 q m b z e' w' := by
  obtain ⟨⟨m', a, f, g, i, l, h1, h2⟩, -⟩ := h
  obtain ⟨m2, a2, f2, g2, l2⟩ := hs m' a
  obtain ⟨l', h3⟩ := hn i l h1
  refine ⟨⟨m2, a2, f.trans f2 g, fun k hk => ?_, i, l', h3, by rw [l2]; exact h2⟩, ok⟩
  rcases g2 k hk with h4 | h4
  · exact g k h4
  · exact .inr (Nat.le_trans f.below.size h4)
theorem HearI.row {lo : Nat} {w0 wr : World} {q : Nat} {m : Mem} {b z : Nat} {e : Eng} (h : HearI lo w0 q m b z e wr) {k : Nat} {x : Array Value} {t : TypeId} {fr : Nat × Nat} (hr : w0.heap[k]? = some (.cells x t fr)) (hx : ¬ m.X q k) (ht : t ≠ 167 := by decide) : wr.heap[k]? = some (.cells x t fr) := by
  obtain ⟨⟨m', a, f, -⟩, -⟩ := h
  exact f.cells k x t fr hr ht hx
theorem link_nb {e : Eng} {x : Nat} {g : Lk.L → Lk.L} {i b : Nat} {l : Lk.L} (h : e.nb[i]? = some (b, l)) : ∃ l', (e.link x g).nb[i]? = some (b, l') := by
  show ∃ l', (e.nb.map _)[i]? = some (b, l')
  rw [List.getElem?_map, h]
  by_cases hb : b = x
  · exact ⟨g l, by simp [hb]⟩
  · exact ⟨l, by simp [hb]⟩
theorem upd_nb (e : Eng) (b now : Nat) (x : Pt) : (e.upd b now x).nb = e.nb := by
  unfold Eng.upd; split <;> rfl
def ReqOK (lo q : Nat) (b now : Nat) (xs : List Pt) : Prop := ∀ x ∈ xs, x.k = 4 → ∀ (e : Eng), e.Ok → (e.req x).Ok ∧ (e.req x).nb = e.nb ∧ (e.req x).L.length ≤ e.L.length + 1 ∧ ∀ (W : World) (m' : Mem), EngAt lo W q e m' → Calls Tryz.prog 43 #[.pointer (some ⟨q, 0, none⟩), .agg #[.int .u8 (x.k : Int), .int .u64 (x.n : Int), .int .i64 (x.d : Int), .int .u32 (x.a : Int), .int .u8 (x.l : Int), .int .u16 (x.s : Int), .int .u16 (x.m : Int)]] W fun en w' => en = .returned (.tuple #[]) ∧ ES lo W q m' (e.req x) w'
theorem part_L {e : Eng} (h : e.Ok) {b now : Nat} {x : Pt} (hx : x.Ok) (hb : b < 16) (hnow : now < 4000000000000000000) (hl : e.L.length ≤ 199) (hrq : x.k = 4 → (e.req x).Ok ∧ (e.req x).nb = e.nb ∧ (e.req x).L.length ≤ e.L.length + 1) : (e.part b now x).Ok ∧ (e.part b now x).L.length ≤ e.L.length + 1 := by
  unfold Eng.part
  split
  · exact ⟨h.link _ _ (fun l hl => hello_ok hl hx.n (by omega)), Nat.le_succ _⟩
  · split
    · split
      · exact ⟨h.link _ _ (fun l hl => heard_ok hl (by have := hx.m; omega) (by omega)), Nat.le_succ _⟩
      · exact ⟨h, Nat.le_succ _⟩
    · split
      · exact h.upd hx hb hnow hl
      · split
        · rename_i h4
          exact ⟨(hrq h4).1, (hrq h4).2.2⟩
        · exact ⟨h, Nat.le_succ _⟩
theorem hello_step {lo : Nat} {w0 wx : World} {q : Nat} {m : Mem} {b z : Nat} {e : Eng} (h : HearI lo w0 q m b z e wx) (n now : Nat) (hn : n < 4611686018427387904) (hnow : now ≤ 1000000) :
    Calls Tryz.prog 40 #[.pointer (some ⟨z, 0, none⟩), .int .u64 (n : Int), .int .u64 (now : Int)] wx fun en w' => en = .returned (.tuple #[]) ∧ HearI lo w0 q m b z (e.link b (fun l => l.hello n now)) w' := by
  have h0 := h
  obtain ⟨⟨m', a, f, g, i, l, h1, h2⟩, ok⟩ := h
  obtain ⟨hi1, he1⟩ := List.getElem?_eq_some_iff.1 h1
  obtain ⟨hi2, he2⟩ := List.getElem?_eq_some_iff.1 h2
  have hz : i < (List.zip e.nb m'.ls).length := by rw [List.length_zip]; omega
  have hlk := a.p.lks _ (List.getElem_mem hz)
  rw [List.getElem_zip, he1, he2] at hlk
  have hok := ok.nbk _ (List.getElem_mem hi1)
  rw [he1] at hok
  refine (Lk.hello_any wx z l n now hlk.2 hok.1 a.p.tab (by omega) (by omega)).mono ?_
  rintro en w' ⟨rfl, hl', G⟩
  obtain ⟨-, a2⟩ := a.lk ok.nbu (g := fun l => l.hello n now) h1 h2 hl' G
  obtain ⟨l', h3⟩ := link_nb (x := b) (g := fun l => l.hello n now) h1
  have F : Fr (fun k => k = z) wx w' := Fr.grown G (fun k e => (Option.some.inj e).symm)
  refine ⟨rfl, ⟨m', a2, f.trans (Y := fun k => k = z) (Ef.frm F a.los (fun k hk => by subst hk; exact hlk.1) (fun k hk => hk)) (fun k hk => ?_), g, i, l', h3, h2⟩, ok.link _ _ (fun l hl => hello_ok hl hn (by omega))⟩
  subst hk
  exact g k (.inr (.inr (.inr (.inl (List.mem_of_getElem? h2)))))
theorem heard_step {lo : Nat} {w0 wx : World} {q : Nat} {m : Mem} {b z : Nat} {e : Eng} (h : HearI lo w0 q m b z e wx) (c now : Nat) (hc : c ≤ 65535) (hnow : now ≤ 1000000) :
    Calls Tryz.prog 41 #[.pointer (some ⟨z, 0, none⟩), .int .u16 (c : Int), .int .u64 (now : Int)] wx fun en w' => en = .returned (.tuple #[]) ∧ HearI lo w0 q m b z (e.link b (fun l => l.heard c now)) w' := by
  have h0 := h
  obtain ⟨⟨m', a, f, g, i, l, h1, h2⟩, ok⟩ := h
  obtain ⟨hi1, he1⟩ := List.getElem?_eq_some_iff.1 h1
  obtain ⟨hi2, he2⟩ := List.getElem?_eq_some_iff.1 h2
  have hz : i < (List.zip e.nb m'.ls).length := by rw [List.length_zip]; omega
  have hlk := a.p.lks _ (List.getElem_mem hz)
  rw [List.getElem_zip, he1, he2] at hlk
  refine (Lk.heard_any wx z l c now hlk.2 (by omega) (by omega)).mono ?_
  rintro en w' ⟨rfl, hl', G⟩
  obtain ⟨-, a2⟩ := a.lk ok.nbu (g := fun l => l.heard c now) h1 h2 hl' G
  obtain ⟨l', h3⟩ := link_nb (x := b) (g := fun l => l.heard c now) h1
  have F : Fr (fun k => k = z) wx w' := Fr.grown G (fun k e => (Option.some.inj e).symm)
  refine ⟨rfl, ⟨m', a2, f.trans (Y := fun k => k = z) (Ef.frm F a.los (fun k hk => by subst hk; exact hlk.1) (fun k hk => hk)) (fun k hk => ?_), g, i, l', h3, h2⟩, ok.link _ _ (fun l hl => heard_ok hl (by omega) (by omega))⟩
  subst hk
  exact g k (.inr (.inr (.inr (.inl (List.mem_of_getElem? h2)))))
theorem upd_step {lo : Nat} {w0 wx : World} {q : Nat} {m : Mem} {b z : Nat} {e : Eng} (h : HearI lo w0 q m b z e wx) (x : Pt) (now : Nat) (hx : x.Ok) (hb : b < 16) (hnow : now ≤ 1000000) (hl : e.L.length ≤ 199) :
    Calls Tryz.prog 42 #[.pointer (some ⟨q, 0, none⟩), .int .i64 (b : Int), .agg #[.int .u8 (x.k : Int), .int .u64 (x.n : Int), .int .i64 (x.d : Int), .int .u32 (x.a : Int), .int .u8 (x.l : Int), .int .u16 (x.s : Int), .int .u16 (x.m : Int)], .int .u64 (now : Int)] wx fun en w' => en = .returned (.tuple #[]) ∧ HearI lo w0 q m b z (e.upd b now x) w' := by
  have h0 := h
  obtain ⟨⟨m', a, f, g, r⟩, ok⟩ := h
  refine (upd_any wx lo q e m' a ok b now x hx hb (by omega)).mono ?_
  rintro en w' ⟨rfl, m2, a2, f2, g2, l2⟩
  obtain ⟨i, l, h1, h2⟩ := r
  refine ⟨rfl, ⟨m2, a2, f.trans f2 g, fun k hk => ?_, i, l, by rw [upd_nb]; exact h1, by rw [l2]; exact h2⟩, (ok.upd hx hb (by omega) hl).1⟩
  rcases g2 k hk with h4 | h4
  · exact g k h4
  · exact .inr (Nat.le_trans f.below.size h4)
theorem req_step {lo : Nat} {w0 wx : World} {q : Nat} {m : Mem} {b z : Nat} {e : Eng} (h : HearI lo w0 q m b z e wx) (x : Pt) (ok' : (e.req x).Ok) (hnb : (e.req x).nb = e.nb) (hc : ∀ (W : World) (m' : Mem), EngAt lo W q e m' → Calls Tryz.prog 43 #[.pointer (some ⟨q, 0, none⟩), .agg #[.int .u8 (x.k : Int), .int .u64 (x.n : Int), .int .i64 (x.d : Int), .int .u32 (x.a : Int), .int .u8 (x.l : Int), .int .u16 (x.s : Int), .int .u16 (x.m : Int)]] W fun en w' => en = .returned (.tuple #[]) ∧ ES lo W q m' (e.req x) w') :
    Calls Tryz.prog 43 #[.pointer (some ⟨q, 0, none⟩), .agg #[.int .u8 (x.k : Int), .int .u64 (x.n : Int), .int .i64 (x.d : Int), .int .u32 (x.a : Int), .int .u8 (x.l : Int), .int .u16 (x.s : Int), .int .u16 (x.m : Int)]] wx fun en w' => en = .returned (.tuple #[]) ∧ HearI lo w0 q m b z (e.req x) w' := by
  obtain ⟨⟨m', a, f, g, r⟩, ok⟩ := h
  refine (hc wx m' a).mono ?_
  rintro en w' ⟨rfl, m2, a2, f2, g2, l2⟩
  obtain ⟨i, l, h1, h2⟩ := r
  refine ⟨rfl, ⟨m2, a2, f.trans f2 g, fun k hk => ?_, i, l, by rw [hnb]; exact h1, by rw [l2]; exact h2⟩, ok'⟩
  rcases g2 k hk with h4 | h4
  · exact g k h4
  · exact .inr (Nat.le_trans f.below.size h4)
theorem part_id (b now : Nat) (e : Eng) (x : Pt) : (e.part b now x).id = e.id := by
  unfold Eng.part Eng.link Eng.upd Eng.req Eng.ask
  repeat' split
  all_goals rfl
set_option maxHeartbeats 8000000 in
theorem hear_any (w : World) (lo q : Nat) (e : Eng) (m : Mem) (h : EngAt lo w q e m) (hok : e.Ok) (b st now : Nat) (A : Option Addr) (n c : Nat) (xs : List Pt) (hn : n = xs.length) (hs : GSl 7 Pt.cl w A xs) (hA : ∀ b o, A = some ⟨b, o, none⟩ → ¬ m.X q b ∧ ∃ x t, t ≠ 167 ∧ w.heap[b]? = some (.cells x t (0, 0))) (hxs : ∀ x ∈ xs, x.Ok) (hb : b < 16) (hbi : b ≠ e.id) (hst : st ≤ 1000) (hes : e.st ≤ 900000) (hnow : now ≤ 1000000) (hnl : e.nb.length ≤ 99) (hLl : e.L.length + xs.length ≤ 199) (hrq : ReqOK lo q b now xs) :
    Calls Tryz.prog 15 #[.pointer (some ⟨q, 0, none⟩), .agg #[.int .i64 (b : Int), .slice A n c], .int .i64 (st : Int), .int .u64 (now : Int)] w fun en w' => en = .returned (.tuple #[]) ∧ (∃ m', EngAt lo w' q (e.hear b st now xs) m' ∧ Ef lo (m.X q) w w' ∧ (∀ k, m'.X q k → m.X q k ∨ w.heap.size ≤ k)) ∧ (e.hear b st now xs).Ok := by
  have B0 := (Below.refl w.heap.size w).alloc (Nat.le_refl _) (.cells #[.int .i64 (b : Int), .slice A n c] 36)
  have r0 := heap_alloc_new w (.cells #[.int .i64 (b : Int), .slice A n c] 36)
  have HE0 := Lib.hid (h.step B0)
  have HR := Lib.hid r0
  have HB0 := Lib.hid B0
  have hz0 : ¬ m.X q w.heap.size := fun hx => by have := (h.x_lt hx).2.1; omega
  have hs0 := hs.below B0
  have HA := Lib.hid (fun (b' o : Nat) (e9 : A = some ⟨b', o, none⟩) => And.intro (hA b' o e9).1 (show ∃ x t, t ≠ 167 ∧ (w.alloc (.cells #[.int .i64 (b : Int), .slice A n c] 36)).heap[b']? = some (Obj.cells x t (0, 0)) by
    obtain ⟨x, t, h8, h9⟩ := (hA b' o e9).2
    exact ⟨x, t, h8, brow B0 h9⟩))
  have HS := Lib.hid hs0
  have HXL := Lib.hid (fun k (hx : m.X q k) => (h.x_lt hx).2.1)
  have HLO := Lib.hid h.los
  clear B0 r0 hs hs0 hA h
  have hbe : ((b : Int) == (e.id : Int)) = false := by simp; omega
  have hw : IntKind.i64.wrap ((e.st : Int) + (st : Int)) = ((e.st + st : Nat) : Int) := by rw [IntKind.wrap_i64]; omega
  obtain ⟨sk, hsk⟩ : ∃ sk, sk = e.st + st := ⟨_, rfl⟩
  rw [← hsk] at hw
  have HSK := Lib.hid hsk
  have HOK := Lib.hid hok
  have HBB := Lib.hid (And.intro hb (And.intro hbi (And.intro hst (And.intro hes (And.intro hnow (And.intro hnl (And.intro hLl (And.intro hn (And.intro hxs hrq)))))))))
  have HZ0 := Lib.hid hz0
  clear hsk hok hz0 hb hbi hst hes hnow hnl hLl hn hxs hrq
  have HW := Lib.hid hw
  clear hw
  go_enter Tryz.func15, Tryz.ntmps15
  go_upto_region 1 with (fail)
  generalize w.alloc _ = w0 at *
  refine wp_region_noPanic ?_
  refine wp_region_held_drew (S := fun y : World => Below w0.heap.size w0 y) (by kernel_rfl) ((Below.refl _ _).drew) (fun hHeld => ?_)
  generalize w0.drew = wd at *
  refine wpAnyH_take (i := 0) (oi := ⟨some 11, .move (.tmp 0), 24, "engine.go:98", #[], none⟩) (v := .pointer (some ⟨q, 0, none⟩)) rfl (by kernel_rfl) (by kernel_rfl) (by kernel_rfl) (fun _ _ _ h => h) (Or.inl ⟨by rfl, fun w hSw => by go_simp⟩) (by assumption) ?_
  try simp only [Act.put, List.setIfInBounds_toArray, List.set_cons_zero, List.set_cons_succ]
  refine wpAnyH_take (i := 1) (oi := ⟨some 12, .binOp .eql 24 (.tmp 11) (.const (.pointer none)) 24, 4, "engine.go:98", #[⟨0, .data⟩], none⟩) (v := .bool false) rfl (by kernel_rfl) (by kernel_rfl) (by kernel_rfl) (fun _ _ _ h => h) (Or.inl ⟨by rfl, fun w hSw => by go_simp⟩) (by assumption) ?_
  try simp only [Act.put, List.setIfInBounds_toArray, List.set_cons_zero, List.set_cons_succ]
  refine wpAnyH_take (i := 2) (oi := ⟨some 13, .move (.tmp 12), 4, "engine.go:98", #[⟨1, .data⟩], none⟩) (v := .bool false) rfl (by kernel_rfl) (by kernel_rfl) (by kernel_rfl) (fun _ _ _ h => h) (Or.inl ⟨by rfl, fun w hSw => by go_simp⟩) (by assumption) ?_
  try simp only [Act.put, List.setIfInBounds_toArray, List.set_cons_zero, List.set_cons_succ]
  refine wpAnyH_take (i := 3) (oi := ⟨some 14, .fieldAddr 36 (.tmp 5) 0, 0, "engine.go:98", #[⟨2, .guard⟩], some (2, false)⟩) (v := .pointer (some ⟨w.heap.size, 0, none⟩)) rfl (by kernel_rfl) (by kernel_rfl) (by kernel_rfl) (fun _ _ _ h => h) (Or.inl ⟨by rfl, fun w hSw => by go_simp⟩) (by assumption) ?_
  try simp only [Act.put, List.setIfInBounds_toArray, List.set_cons_zero, List.set_cons_succ]
  refine wpAnyH_take (i := 4) (oi := ⟨some 15, .load 3 (.tmp 14), 3, "engine.go:98", #[⟨3, .data⟩, ⟨2, .guard⟩], some (2, false)⟩) (v := .int .i64 (b : Int)) rfl (by kernel_rfl) (by kernel_rfl) (by kernel_rfl) (fun _ _ _ h => h) (Or.inl ⟨by rfl, fun w hSw => by obtain ⟨p0, p1, -⟩ := row2 (brow hSw HR.out); go_simp⟩) (by assumption) ?_
  try simp only [Act.put, List.setIfInBounds_toArray, List.set_cons_zero, List.set_cons_succ]
  refine wpAnyH_take (i := 5) (oi := ⟨some 16, .move (.tmp 0), 24, "engine.go:98", #[⟨2, .guard⟩], some (2, false)⟩) (v := .pointer (some ⟨q, 0, none⟩)) rfl (by kernel_rfl) (by kernel_rfl) (by kernel_rfl) (fun _ _ _ h => h) (Or.inl ⟨by rfl, fun w hSw => by go_simp⟩) (by assumption) ?_
  try simp only [Act.put, List.setIfInBounds_toArray, List.set_cons_zero, List.set_cons_succ]
  refine wpAnyH_take (i := 6) (oi := ⟨some 17, .nilCheck (.tmp 16), 0, "engine.go:98", #[⟨5, .data⟩, ⟨2, .guard⟩], some (2, false)⟩) (v := .pointer (some ⟨q, 0, none⟩)) rfl (by kernel_rfl) (by kernel_rfl) (by kernel_rfl) (fun _ _ _ h => h) (Or.inl ⟨by rfl, fun w hSw => by go_simp⟩) (by assumption) ?_
  try simp only [Act.put, List.setIfInBounds_toArray, List.set_cons_zero, List.set_cons_succ]
  refine wpAnyH_take (i := 7) (oi := ⟨some 18, .fieldAddr 95 (.tmp 17) 0, 0, "engine.go:98", #[⟨6, .data⟩, ⟨2, .guard⟩], some (2, false)⟩) (v := .pointer (some ⟨q, 0, none⟩)) rfl (by kernel_rfl) (by kernel_rfl) (by kernel_rfl) (fun _ _ _ h => h) (Or.inl ⟨by rfl, fun w hSw => by go_simp⟩) (by assumption) ?_
  try simp only [Act.put, List.setIfInBounds_toArray, List.set_cons_zero, List.set_cons_succ]
  refine wpAnyH_take (i := 8) (oi := ⟨some 19, .load 3 (.tmp 18), 3, "engine.go:98", #[⟨7, .data⟩, ⟨2, .guard⟩], some (2, false)⟩) (v := .int .i64 (e.id : Int)) rfl (by kernel_rfl) (by kernel_rfl) (by kernel_rfl) (fun _ _ _ h => h) (Or.inl ⟨by rfl, fun w hSw => by have c0 := (HE0.out.step hSw).ec.c0; go_simp⟩) (by assumption) ?_
  try simp only [Act.put, List.setIfInBounds_toArray, List.set_cons_zero, List.set_cons_succ]
  refine wpAnyH_take (i := 9) (oi := ⟨some 20, .binOp .eql 3 (.tmp 15) (.tmp 19) 3, 4, "engine.go:98", #[⟨4, .data⟩, ⟨8, .data⟩, ⟨2, .guard⟩], some (2, false)⟩) (v := .bool false) rfl (by kernel_rfl) (by kernel_rfl) (by kernel_rfl) (fun _ _ _ h => h) (Or.inl ⟨by rfl, fun w hSw => by go_simp⟩) (by assumption) ?_
  try simp only [Act.put, List.setIfInBounds_toArray, List.set_cons_zero, List.set_cons_succ]
  refine wpAnyH_take (i := 10) (oi := ⟨some 21, .pick (.tmp 13) (.const (.bool true)) (.tmp 20), 4, "engine.go:98", #[⟨2, .data⟩, ⟨9, .data⟩], none⟩) (v := .bool false) rfl (by kernel_rfl) (by kernel_rfl) (by kernel_rfl) (fun _ _ _ h => h) (Or.inl ⟨by rfl, fun w hSw => by go_simp⟩) (by assumption) ?_
  try simp only [Act.put, List.setIfInBounds_toArray, List.set_cons_zero, List.set_cons_succ]
  refine wpAnyH_done (by kernel_rfl) ?_ _
  try unfold NoPanic
  have HE1 := Lib.hid (HE0.out.step hHeld)
  have HBd := Lib.hid hHeld
  obtain ⟨-, -, -, -, -, -, -, c7, -⟩ := HE1.out.ec
  have f7 := HE1.out.ec.fz 7
  have hql := HE1.out.lt
  clear hHeld hbe
  have hw := HW.out
  go_upto_region 3 with (simp only [hw])
  have hI2 := EngAt.put (e' := { e with st := sk }) (m' := m) HE1.out.row HE1.out.le ⟨HE1.out.p.own, HE1.out.p.src, HE1.out.p.rts, HE1.out.p.nbs, HE1.out.p.lsl, HE1.out.p.lks, HE1.out.p.nd, HE1.out.p.ch, HE1.out.p.lost, HE1.out.p.rq, HE1.out.p.tab, HE1.out.p.lo0⟩ 7 (.int .i64 (sk : Int)) rfl
  have hF2 : Ef lo (m.X q) w0 (wd.setCell ⟨q, 7, none⟩ (.int .i64 (sk : Int))) := Ef.trans (Y := m.X q) (Ef.of HBd.out HE0.out.los) (Ef.frm (Fr.grown (X := fun k => k = q) (grown_setCell wd q 7 (.int .i64 (sk : Int))) (fun k e => (Option.some.inj e).symm)) HE1.out.los (fun k hk => by subst hk; exact HE1.out.le) (fun k hk => by subst hk; exact Or.inl rfl)) (fun k hk => Or.inl hk)
  clear c7 f7 hql hw
  have HI2 := Lib.hid (And.intro hI2 hF2)
  clear hI2 hF2 HE1 HBd
  generalize wd.setCell _ _ = w2 at *
  have hr2 := HI2.out.2.cells _ _ _ _ HR.out (by decide) HZ0.out
  obtain ⟨p0, p1, -⟩ := row2 hr2
  have hok2 : ({ e with st := sk } : Eng).Ok := by
    have h9 := HOK.out
    have := HSK.out
    exact ⟨h9.idl, h9.nbu, h9.nbl, h9.nbk, h9.ri, h9.lok, h9.lle, h9.chu, h9.cho, h9.chl, h9.owo, h9.owl, h9.lou, h9.loo, h9.lol, h9.rql, h9.cl, ⟨h9.cts.1, by show sk ≤ 1000000; have := HBB.out.2.2.1; have := HBB.out.2.2.2.1; omega, h9.cts.2.2⟩⟩
  have hmeet := meet_any w2 lo q _ m HI2.out.1 hok2 b now (by have := HBB.out.2.2.2.2.1; omega)
  have hmok := hok2.meet HBB.out.1 (by have := HBB.out.2.2.2.2.1; omega) (x := b) (now := now) HBB.out.2.2.2.2.2.1
  have HM := Lib.hid hmeet
  have HMO := Lib.hid hmok
  clear hmeet hmok hok2 hr2
  go_upto_region 4 with (go_at_call 39; (with_reducible refine HM.out.mono ?_); rintro en w3 ⟨m3, z, i3, l3, rfl, hE3, hF3, hg3, hn3, hl3⟩; have HH3 := Lib.hid (⟨⟨m3, hE3, HI2.out.2.trans (Y := m.X q) hF3 (fun k hk => Or.inl hk), fun k hk => (hg3 k hk).imp_right (fun h9 => Nat.le_trans HI2.out.2.below.size h9), i3, l3, hn3, hl3⟩, HMO.out⟩ : HearI lo w0 q m b z _ w3); clear hE3 hF3 hg3 hn3 hl3 p0 p1)
  obtain ⟨E0, hE0⟩ : ∃ E0, E0 = Eng.meet { e with st := sk } b now := ⟨_, rfl⟩
  rw [← hE0] at HH3
  have HE00 := Lib.hid hE0
  have HL0 := Lib.hid (show E0.L.length = e.L.length by
    rw [hE0]; unfold Eng.meet; split <;> rfl)
  have HID := Lib.hid (show E0.id = e.id by
    rw [hE0]; unfold Eng.meet; split <;> rfl)
  clear hE0 HM HMO
  have hr3 := HH3.out.row HR.out HZ0.out
  obtain ⟨p0, p1, -⟩ := row2 hr3
  clear hr3
  have hn9 : n ≤ 199 := by have h1 := HBB.out.2.2.2.2.2.2.1; have h2 := HBB.out.2.2.2.2.2.2.2.1; omega
  go_wp2
  clear p0 p1
  go_loopw [40] (fun i wr => ∃ j : Nat, j ≤ n ∧ i = .int .i64 j ∧ Hid (HearI lo w0 q m b z ((xs.take j).foldl (Eng.part b now) E0) wr ∧ ((xs.take j).foldl (Eng.part b now) E0).L.length ≤ E0.L.length + j ∧ ((xs.take j).foldl (Eng.part b now) E0).id = E0.id)) (fun i _ => n - (intOf i).toNat)
  case atStart => exact ⟨0, Nat.zero_le _, rfl, by simpa using HH3.out, by simp, by simp⟩
  case round =>
    obtain ⟨j, hj, rfl, HR0⟩ := hrel
    by_cases hlt : j < n
    · have hjl : j < xs.length := by rw [← HBB.out.2.2.2.2.2.2.2.1]; exact hlt
      obtain ⟨m4, a4, f4, g4, r4⟩ := HR0.out.1.ex
      obtain ⟨bb, oo, rfl, hbb, hc0⟩ := (HS.out.ef f4 HA.out) j hjl
      have hc := PtAt.of hc0
      have hxo := HBB.out.2.2.2.2.2.2.2.2.1 _ (List.getElem_mem hjl)
      have hrq4 := HBB.out.2.2.2.2.2.2.2.2.2 _ (List.getElem_mem hjl)
      have hnx : (xs.take (j + 1)).foldl (Eng.part b now) E0 = Eng.part b now ((xs.take j).foldl (Eng.part b now) E0) xs[j] := by
        rw [List.take_succ_eq_append_getElem hjl, List.foldl_append]; rfl
      have hLj : ((xs.take j).foldl (Eng.part b now) E0).L.length ≤ 199 - 1 := by
        have h1 := HR0.out.2.1
        have h2 := HL0.out
        have h3 := HBB.out.2.2.2.2.2.2.1
        omega
      have HIJ := HR0
      have HNX : Hid (∀ w', HearI lo w0 q m b z (Eng.part b now ((xs.take j).foldl (Eng.part b now) E0) xs[j]) w' → HearI lo w0 q m b z ((xs.take (j + 1)).foldl (Eng.part b now) E0) w' ∧ ((xs.take (j + 1)).foldl (Eng.part b now) E0).L.length ≤ E0.L.length + (j + 1) ∧ ((xs.take (j + 1)).foldl (Eng.part b now) E0).id = E0.id) := Lib.hid fun w' h9 => by
        rw [hnx]
        refine ⟨h9, ?_, by rw [part_id]; exact HR0.out.2.2⟩
        have := (part_L HR0.out.1.ok hxo HBB.out.1 (by have := HBB.out.2.2.2.2.1; omega) (by omega) (now := now) (b := b) (fun h4 => by
          obtain ⟨p1, p2, p3, -⟩ := hrq4 h4 _ HR0.out.1.ok
          exact ⟨p1, p2, p3⟩)).2
        have := HR0.out.2.1
        omega
      have HJ := Lib.hid HR0.out.1
      have HJI := Lib.hid HR0.out.2.2
      clear HR0 hnx hc0 a4 f4 g4 r4 HIJ
      generalize (xs.take j).foldl (Eng.part b now) E0 = Ej at *
      generalize xs[j] = x at *
      have HXO := Lib.hid (And.intro hxo (And.intro hrq4 hLj))
      clear hxo hrq4 hLj
      obtain ⟨k0, k1, k2, k3, k4, k5, k6⟩ := hc
      go_upto_region 7 with (fail)
      clear k0 k1 k2 k3 k4 k5 k6 hbb
      have BA := (Below.refl wr.heap.size wr).alloc (Nat.le_refl _) (.cells #[.int .u8 (x.k : Int), .int .u64 (x.n : Int), .int .i64 (x.d : Int), .int .u32 (x.a : Int), .int .u8 (x.l : Int), .int .u16 (x.s : Int), .int .u16 (x.m : Int)] 32)
      have HX := Lib.hid (heap_alloc_new wr (.cells #[.int .u8 (x.k : Int), .int .u64 (x.n : Int), .int .i64 (x.d : Int), .int .u32 (x.a : Int), .int .u8 (x.l : Int), .int .u16 (x.s : Int), .int .u16 (x.m : Int)] 32))
      replace HJ := Lib.hid (HJ.out.step BA)
      clear BA
      generalize wr.alloc _ = wx at *
      generalize wr.heap.size = y at *
      obtain ⟨x0, x1, x2, x3, x4, x5, x6, -⟩ := row7 HX.out
      have hrp := HJ.out.row HR.out HZ0.out
      obtain ⟨p0, p1, -⟩ := row2 hrp
      clear hrp
      by_cases h1 : x.k = 1
      · have e1 : ((x.k : Int) == 1) = true := by simp; omega
        have hc := hello_step HJ.out x.n now HXO.out.1.n HBB.out.2.2.2.2.1
        have HC := Lib.hid hc
        have HPT := Lib.hid (show Eng.part b now Ej x = Ej.link b (fun l => l.hello x.n now) by unfold Eng.part; rw [if_pos h1])
        clear hc h1
        go_wp2_with (go_at_call 40; (with_reducible refine HC.out.mono ?_); rintro en w' ⟨rfl, hI⟩; have HV := Lib.hid (HNX.out _ (by rw [HPT.out]; exact hI)); clear hI)
        go_roundw
        case rel => exact ⟨j + 1, by omega, by go_num, HV.out⟩
        case measure => simp [intOf]; omega
      · have e1 : ((x.k : Int) == 1) = false := by simp; omega
        by_cases h2 : x.k = 2
        · have e2 : ((x.k : Int) == 2) = true := by simp; omega
          have hc00 : ∀ W : World, Below wx.heap.size wx W → W.cell? ⟨q, 0, none⟩ = some (.int .i64 (Ej.id : Int)) := fun W B => by
            obtain ⟨⟨m', a, -⟩, -⟩ := HJ.out
            exact (a.step B).ec.c0
          obtain ⟨id, hid⟩ : ∃ id, id = Ej.id := ⟨_, rfl⟩
          rw [← hid] at hc00
          have HC0 := Lib.hid hc00
          clear hc00
          by_cases hd : x.d = id
          · have hde : ((x.d : Int) == (id : Int)) = true := by simp; omega
            have HPT := Lib.hid (show Eng.part b now Ej x = Ej.link b (fun l => l.heard x.m now) by unfold Eng.part; rw [if_neg h1, if_pos h2, if_pos (by omega)])
            clear h1 h2 hd hid
            go_upto_region 11 with (fail)
            clear x0 x1 x2 x3 x4 x5 x6 p0 p1
            refine wp_region_noPanic ?_
            refine wp_region_held_drew (S := fun y : World => Below wx.heap.size wx y) (by kernel_rfl) ((Below.refl _ _).drew) (fun hHeld => ?_)
            generalize wx.drew = wd at *
            refine wpAnyH_take (i := 0) (oi := ⟨some 55, .fieldAddr 32 (.tmp 10) 2, 0, "engine.go:108", #[], none⟩) (v := .pointer (some ⟨y, 2, none⟩)) rfl (by kernel_rfl) (by kernel_rfl) (by kernel_rfl) (fun _ _ _ h => h) (Or.inl ⟨by rfl, fun w hSw => by go_simp⟩) (by assumption) ?_
            try simp only [Act.put, List.setIfInBounds_toArray, List.set_cons_zero, List.set_cons_succ]
            refine wpAnyH_take (i := 1) (oi := ⟨some 56, .load 3 (.tmp 55), 3, "engine.go:108", #[⟨0, .data⟩], none⟩) (v := .int .i64 (x.d : Int)) rfl (by kernel_rfl) (by kernel_rfl) (by kernel_rfl) (fun _ _ _ h => h) (Or.inl ⟨by rfl, fun w hSw => by obtain ⟨p0, p1, p2, p3, p4, p5, p6, -⟩ := row7 (brow hSw HX.out); go_simp⟩) (by assumption) ?_
            try simp only [Act.put, List.setIfInBounds_toArray, List.set_cons_zero, List.set_cons_succ]
            refine wpAnyH_take (i := 2) (oi := ⟨some 57, .move (.tmp 0), 24, "engine.go:108", #[], none⟩) (v := .pointer (some ⟨q, 0, none⟩)) rfl (by kernel_rfl) (by kernel_rfl) (by kernel_rfl) (fun _ _ _ h => h) (Or.inl ⟨by rfl, fun w hSw => by go_simp⟩) (by assumption) ?_
            try simp only [Act.put, List.setIfInBounds_toArray, List.set_cons_zero, List.set_cons_succ]
            refine wpAnyH_take (i := 3) (oi := ⟨some 58, .nilCheck (.tmp 57), 0, "engine.go:108", #[⟨2, .data⟩], none⟩) (v := .pointer (some ⟨q, 0, none⟩)) rfl (by kernel_rfl) (by kernel_rfl) (by kernel_rfl) (fun _ _ _ h => h) (Or.inl ⟨by rfl, fun w hSw => by go_simp⟩) (by assumption) ?_
            try simp only [Act.put, List.setIfInBounds_toArray, List.set_cons_zero, List.set_cons_succ]
            refine wpAnyH_take (i := 4) (oi := ⟨some 59, .fieldAddr 95 (.tmp 58) 0, 0, "engine.go:108", #[⟨3, .data⟩], none⟩) (v := .pointer (some ⟨q, 0, none⟩)) rfl (by kernel_rfl) (by kernel_rfl) (by kernel_rfl) (fun _ _ _ h => h) (Or.inl ⟨by rfl, fun w hSw => by go_simp⟩) (by assumption) ?_
            try simp only [Act.put, List.setIfInBounds_toArray, List.set_cons_zero, List.set_cons_succ]
            refine wpAnyH_take (i := 5) (oi := ⟨some 60, .load 3 (.tmp 59), 3, "engine.go:108", #[⟨4, .data⟩], none⟩) (v := .int .i64 (id : Int)) rfl (by kernel_rfl) (by kernel_rfl) (by kernel_rfl) (fun _ _ _ h => h) (Or.inl ⟨by rfl, fun w hSw => by have c0 := HC0.out _ hSw; go_simp⟩) (by assumption) ?_
            try simp only [Act.put, List.setIfInBounds_toArray, List.set_cons_zero, List.set_cons_succ]
            refine wpAnyH_take (i := 6) (oi := ⟨some 61, .binOp .eql 3 (.tmp 56) (.tmp 60) 3, 4, "engine.go:108", #[⟨1, .data⟩, ⟨5, .data⟩], none⟩) (v := .bool true) rfl (by kernel_rfl) (by kernel_rfl) (by kernel_rfl) (fun _ _ _ h => h) (Or.inl ⟨by rfl, fun w hSw => by go_simp⟩) (by assumption) ?_
            try simp only [Act.put, List.setIfInBounds_toArray, List.set_cons_zero, List.set_cons_succ]
            refine wpAnyH_done (by kernel_rfl) ?_ _
            try unfold NoPanic
            have HJ2 := Lib.hid (HJ.out.step hHeld)
            obtain ⟨x0, x1, x2, x3, x4, x5, x6, -⟩ := row7 (brow hHeld HX.out)
            have hyl := (Array.getElem?_eq_some_iff.1 (brow hHeld HX.out)).1
            have hc := heard_step HJ2.out x.m now HXO.out.1.m HBB.out.2.2.2.2.1
            have HC := Lib.hid hc
            clear hc hHeld hde
            go_wp2_with (go_at_call 41; (with_reducible refine HC.out.mono ?_); rintro en w' ⟨rfl, hI⟩; have HV := Lib.hid (HNX.out _ (by rw [HPT.out]; exact hI)); clear hI)
            go_roundw
            case rel => exact ⟨j + 1, by omega, by go_num, HV.out⟩
            case measure => simp [intOf]; omega
          · have hde : ((x.d : Int) == (id : Int)) = false := by simp; omega
            have HPT := Lib.hid (show Eng.part b now Ej x = Ej by unfold Eng.part; rw [if_neg h1, if_pos h2, if_neg (by omega)])
            clear h1 h2 hd hid
            go_upto_region 11 with (fail)
            clear x0 x1 x2 x3 x4 x5 x6 p0 p1
            refine wp_region_noPanic ?_
            refine wp_region_held_drew (S := fun y : World => Below wx.heap.size wx y) (by kernel_rfl) ((Below.refl _ _).drew) (fun hHeld => ?_)
            generalize wx.drew = wd at *
            refine wpAnyH_take (i := 0) (oi := ⟨some 55, .fieldAddr 32 (.tmp 10) 2, 0, "engine.go:108", #[], none⟩) (v := .pointer (some ⟨y, 2, none⟩)) rfl (by kernel_rfl) (by kernel_rfl) (by kernel_rfl) (fun _ _ _ h => h) (Or.inl ⟨by rfl, fun w hSw => by go_simp⟩) (by assumption) ?_
            try simp only [Act.put, List.setIfInBounds_toArray, List.set_cons_zero, List.set_cons_succ]
            refine wpAnyH_take (i := 1) (oi := ⟨some 56, .load 3 (.tmp 55), 3, "engine.go:108", #[⟨0, .data⟩], none⟩) (v := .int .i64 (x.d : Int)) rfl (by kernel_rfl) (by kernel_rfl) (by kernel_rfl) (fun _ _ _ h => h) (Or.inl ⟨by rfl, fun w hSw => by obtain ⟨p0, p1, p2, p3, p4, p5, p6, -⟩ := row7 (brow hSw HX.out); go_simp⟩) (by assumption) ?_
            try simp only [Act.put, List.setIfInBounds_toArray, List.set_cons_zero, List.set_cons_succ]
            refine wpAnyH_take (i := 2) (oi := ⟨some 57, .move (.tmp 0), 24, "engine.go:108", #[], none⟩) (v := .pointer (some ⟨q, 0, none⟩)) rfl (by kernel_rfl) (by kernel_rfl) (by kernel_rfl) (fun _ _ _ h => h) (Or.inl ⟨by rfl, fun w hSw => by go_simp⟩) (by assumption) ?_
            try simp only [Act.put, List.setIfInBounds_toArray, List.set_cons_zero, List.set_cons_succ]
            refine wpAnyH_take (i := 3) (oi := ⟨some 58, .nilCheck (.tmp 57), 0, "engine.go:108", #[⟨2, .data⟩], none⟩) (v := .pointer (some ⟨q, 0, none⟩)) rfl (by kernel_rfl) (by kernel_rfl) (by kernel_rfl) (fun _ _ _ h => h) (Or.inl ⟨by rfl, fun w hSw => by go_simp⟩) (by assumption) ?_
            try simp only [Act.put, List.setIfInBounds_toArray, List.set_cons_zero, List.set_cons_succ]
            refine wpAnyH_take (i := 4) (oi := ⟨some 59, .fieldAddr 95 (.tmp 58) 0, 0, "engine.go:108", #[⟨3, .data⟩], none⟩) (v := .pointer (some ⟨q, 0, none⟩)) rfl (by kernel_rfl) (by kernel_rfl) (by kernel_rfl) (fun _ _ _ h => h) (Or.inl ⟨by rfl, fun w hSw => by go_simp⟩) (by assumption) ?_
            try simp only [Act.put, List.setIfInBounds_toArray, List.set_cons_zero, List.set_cons_succ]
            refine wpAnyH_take (i := 5) (oi := ⟨some 60, .load 3 (.tmp 59), 3, "engine.go:108", #[⟨4, .data⟩], none⟩) (v := .int .i64 (id : Int)) rfl (by kernel_rfl) (by kernel_rfl) (by kernel_rfl) (fun _ _ _ h => h) (Or.inl ⟨by rfl, fun w hSw => by have c0 := HC0.out _ hSw; go_simp⟩) (by assumption) ?_
            try simp only [Act.put, List.setIfInBounds_toArray, List.set_cons_zero, List.set_cons_succ]
            refine wpAnyH_take (i := 6) (oi := ⟨some 61, .binOp .eql 3 (.tmp 56) (.tmp 60) 3, 4, "engine.go:108", #[⟨1, .data⟩, ⟨5, .data⟩], none⟩) (v := .bool false) rfl (by kernel_rfl) (by kernel_rfl) (by kernel_rfl) (fun _ _ _ h => h) (Or.inl ⟨by rfl, fun w hSw => by go_simp⟩) (by assumption) ?_
            try simp only [Act.put, List.setIfInBounds_toArray, List.set_cons_zero, List.set_cons_succ]
            refine wpAnyH_done (by kernel_rfl) ?_ _
            try unfold NoPanic
            have HV := Lib.hid (HNX.out _ (by rw [HPT.out]; exact HJ.out.step hHeld))
            clear hHeld hde
            go_wp2
            go_roundw
            case rel => exact ⟨j + 1, by omega, by go_num, HV.out⟩
            case measure => simp [intOf]; omega
        · have e2 : ((x.k : Int) == 2) = false := by simp; omega
          by_cases h3 : x.k = 3
          · have e3 : ((x.k : Int) == 3) = true := by simp; omega
            have hc := upd_step HJ.out x now HXO.out.1 HBB.out.1 HBB.out.2.2.2.2.1 (by have := HXO.out.2.2; omega)
            have HC := Lib.hid hc
            have HPT := Lib.hid (show Eng.part b now Ej x = Ej.upd b now x by unfold Eng.part; rw [if_neg h1, if_neg h2, if_pos h3])
            clear hc h1 h2 h3
            go_wp2_with (go_at_call 42; (with_reducible refine HC.out.mono ?_); rintro en w' ⟨rfl, hI⟩; have HV := Lib.hid (HNX.out _ (by rw [HPT.out]; exact hI)); clear hI)
            go_roundw
            case rel => exact ⟨j + 1, by omega, by go_num, HV.out⟩
            case measure => simp [intOf]; omega
          · have e3 : ((x.k : Int) == 3) = false := by simp; omega
            by_cases h4 : x.k = 4
            · have e4 : ((x.k : Int) == 4) = true := by simp; omega
              obtain ⟨r1, r2, r3, r4⟩ := HXO.out.2.1 h4 Ej HJ.out.ok
              have HC := Lib.hid (req_step HJ.out x r1 r2 r4)
              have HPT := Lib.hid (show Eng.part b now Ej x = Ej.req x by unfold Eng.part; rw [if_neg h1, if_neg h2, if_neg h3, if_pos h4])
              clear h1 h2 h3 h4 r1 r2 r3 r4
              go_wp2_with (go_at_call 43; (with_reducible refine HC.out.mono ?_); rintro en w' ⟨rfl, hI⟩; have HV := Lib.hid (HNX.out _ (by rw [HPT.out]; exact hI)); clear hI)
              go_roundw
              case rel => exact ⟨j + 1, by omega, by go_num, HV.out⟩
              case measure => simp [intOf]; omega
            · have e4 : ((x.k : Int) == 4) = false := by simp; omega
              have HV := Lib.hid (HNX.out _ (show HearI lo w0 q m b z (Eng.part b now Ej x) wx by unfold Eng.part; rw [if_neg h1, if_neg h2, if_neg h3, if_neg h4]; exact HJ.out))
              clear h1 h2 h3 h4
              go_wp2
              go_roundw
              case rel => exact ⟨j + 1, by omega, by go_num, HV.out⟩
              case measure => simp [intOf]; omega
    · obtain rfl : j = n := by omega
      have hE : (xs.take j).foldl (Eng.part b now) E0 = e.hear b st now xs := by
        have := HBB.out.2.2.2.2.2.2.2.1
        rw [this, List.take_length]
        unfold Eng.hear
        rw [if_neg HBB.out.2.1, HE00.out, HSK.out]
      rw [hE] at HR0
      go_wp2
      refine bodyPost_end (v := .tuple #[]) (by simp [results, Tryz.results15, go_sem]) rfl ⟨rfl, ?_, HR0.out.1.ok⟩
      obtain ⟨m', a, f, g, -⟩ := HR0.out.1.ex
      refine ⟨m', a, Ef.trans (Y := m.X q) (Ef.of HB0.out HLO.out) f (fun k hk => Or.inl hk), fun k hk => (g k hk).imp_right (fun h9 => Nat.le_trans HB0.out.size h9)⟩
end Go.Proofs.YtjbogjbopgcbhaaGreatDoor.Eg
namespace Go.Proofs.YtjbogjbopgcbhaaGreatDoor.Eg
open Pre Ser Rts
open Go.Proofs.YtjbogjbopgcbhaaGreatDoor.Src (row1 row2 Mk SrcAt)
open Go.Proofs.YtjbogjbopgcbhaaGreatDoor.Lk (LkAt)
open Go.ChangeShapes Go.WideShapes Go.ChangeAt Go.RowKit
set_option maxRecDepth 8000
set_option linter.unusedVariables false
set_option linter.unusedSimpArgs false
open Go.Proofs.YtjbogjbopgcbhaaGreatDoor.Src (pv mv)
variable {lo : Nat}
theorem next_any (s n : Int) (w : World) :
    Calls Tryz.prog 84 #[.int .u16 s, .int .i64 n] w fun e w' => e = .returned (.int .u16 ((s + n) % 65536)) ∧ w = w' := by
  go_enter Tryz.func84, Tryz.ntmps84
  go_wp2
  go_ret
  refine ⟨Ser.ret_int ?_, rfl⟩
  simp only [IntKind.wrap_u16]; omega
theorem Wants_any (u : World) (q : Nat) (f : Mk) (c : Nat) (h : SrcAt lo u q f c) (a n : Nat) (ha : a < 4294967296) (hn : n < 256) :
    Calls Tryz.prog 103 #[.pointer (some ⟨q, 0, none⟩), pv a n] u fun e w' => e = .returned (.tuple #[.int .u16 (match f a n with | none => 0 | some x => ((x.1 : Int) + 1) % 65536), .bool (f a n).isSome]) ∧ Below u.heap.size u w' := by
  have HM := Lib.hid (fun W (hW : Below u.heap.size u W) => Src.Mark_any W q f c (h.below hW) a n ha hn)
  obtain ⟨x, hx, hx2⟩ := Src.look_form f a n
  rw [hx] at HM
  clear hx h
  have HX2 := Lib.hid hx2
  clear hx2
  have B1 := Lib.hid ((Below.refl u.heap.size u).alloc (Nat.le_refl _) (.cells #[.int .u32 (a : Int), .int .u8 (n : Int)] 30))
  unfold pv at *
  cases hf : f a n with
  | none =>
    rw [hf] at HM
    clear HX2 hf
    go_enter Tryz.func103, Tryz.ntmps103
    go_wp2_with (first
      | (go_at_call 56; (with_reducible refine (HM.out _ B1.out).mono ?_); rintro e w1 ⟨rfl, B2⟩; have HB := Lib.hid (B1.out.trans (B2.mono (by simp))); clear B2)
      | (go_at_call 84; (with_reducible refine (next_any _ _ _).mono ?_); rintro e w2 ⟨rfl, rfl⟩))
    exact bodyPost_ret (results_tmp2 rfl _ _ _) rfl ⟨rfl, HB.out.alloc HB.out.size _⟩
  | some y =>
    obtain rfl := HX2.out y hf
    rw [hf] at HM
    clear HX2 hf
    go_enter Tryz.func103, Tryz.ntmps103
    go_wp2_with (first
      | (go_at_call 56; (with_reducible refine (HM.out _ B1.out).mono ?_); rintro e w1 ⟨rfl, B2⟩; have HB := Lib.hid (B1.out.trans (B2.mono (by simp))); clear B2)
      | (go_at_call 84; (with_reducible refine (next_any _ _ _).mono ?_); rintro e w2 ⟨rfl, rfl⟩))
    exact bodyPost_ret (results_tmp2 rfl _ _ _) rfl ⟨rfl, HB.out.alloc HB.out.size _⟩
def wantS (f : Mk) (a n : Nat) : Nat := match f a n with | none => 1 | some x => (x.1 + 1) % 65536
theorem firstS_any (u : World) (q : Nat) (f : Mk) (c : Nat) (h : SrcAt lo u q f c) (a n : Nat) (ha : a < 4294967296) (hn : n < 256) :
    Calls Tryz.prog 75 #[.pointer (some ⟨q, 0, none⟩), .agg #[.int .u32 (a : Int), .int .u8 (n : Int)]] u fun e w' => e = .returned (.int .u16 (wantS f a n : Nat)) ∧ Below u.heap.size u w' := by
  have B0 := (Below.refl u.heap.size u).alloc (Nat.le_refl _) (.cells #[.int .u32 (a : Int), .int .u8 (n : Int)] 30)
  obtain ⟨p0, p1, -⟩ := row2 (heap_alloc_new u (.cells #[.int .u32 (a : Int), .int .u8 (n : Int)] 30))
  have hc := Wants_any _ q f c (h.below B0) a n ha hn
  unfold Src.pv at hc
  unfold wantS
  have HB0 := Lib.hid B0
  cases hf : f a n with
  | none =>
    rw [hf] at hc
    have HC := Lib.hid hc
    clear hc hf h B0
    go_enter Tryz.func75, Tryz.ntmps75
    go_wp2_with (go_at_call 103; (with_reducible refine HC.out.mono ?_); rintro en w' ⟨rfl, B⟩; have HB := Lib.hid (HB0.out.trans (B.mono HB0.out.size)); clear B)
    go_ret
    exact ⟨rfl, HB.out⟩
  | some y =>
    rw [hf] at hc
    obtain ⟨s, hs⟩ : ∃ s : Nat, s = (y.1 + 1) % 65536 := ⟨_, rfl⟩
    have hs2 : (((y.1 : Nat) : Int) + 1) % 65536 = (s : Int) := by omega
    simp only [Option.isSome, hs2] at hc
    simp only [← hs]
    have HC := Lib.hid hc
    clear hc hf h B0 hs2 hs
    go_enter Tryz.func75, Tryz.ntmps75
    go_wp2_with (go_at_call 103; (with_reducible refine HC.out.mono ?_); rintro en w' ⟨rfl, B⟩; have HB := Lib.hid (HB0.out.trans (B.mono HB0.out.size)); clear B)
    go_ret
    exact ⟨rfl, HB.out⟩
def f0 : Mk := fun _ _ => none
theorem of_nil (w : World) : Calls Tryz.prog 71 #[.slice none 0 0] w fun e w' => ∃ q, e = .returned (.pointer (some ⟨q, 0, none⟩)) ∧ SrcAt w.heap.size w' q f0 0 ∧ Below w.heap.size w w' := by
  have HN := Lib.hid (Src.New_any w)
  go_enter Tryz.func71, Tryz.ntmps71
  go_wp2_with (go_at_call 111; (with_reducible refine HN.out.mono ?_); rintro en w1 ⟨rfl, hS, B⟩; have HS := Lib.hid (And.intro hS B); clear hS B)
  go_loopw [9] (fun i wr => i = .int .i64 0 ∧ wr = w1) (fun _ _ => 0)
  case atStart => exact ⟨rfl, rfl⟩
  case round =>
    obtain ⟨rfl, rfl⟩ := hrel
    go_wp2
    go_ret
    exact ⟨_, rfl, HS.out.1, HS.out.2⟩
end Go.Proofs.YtjbogjbopgcbhaaGreatDoor.Eg
namespace Go.Proofs.YtjbogjbopgcbhaaGreatDoor.Eg
open Pre Ser Rts
open Go.Proofs.YtjbogjbopgcbhaaGreatDoor.Src (row1 row2 Mk SrcAt)
open Go.Proofs.YtjbogjbopgcbhaaGreatDoor.Lk (LkAt)
open Go.ChangeShapes Go.WideShapes Go.ChangeAt Go.RowKit
set_option maxRecDepth 8000
set_option linter.unusedVariables false
set_option linter.unusedSimpArgs false
def addOwn (f : Mk) (own : List Hm) (p : Nat × Nat) : List Hm := if Pre.right p.1 p.2 = true ∧ own.any (Hm.is p.1 p.2) = false then own ++ [⟨p.1, p.2, wantS f p.1 p.2⟩] else own
def Eng.base (id : Nat) (f : Mk) (c : Nat) : Eng := ⟨id, [], f, c, [], [], [], 0, 0, 0, 0, 0, true, [], []⟩
def Eng.new (id : Nat) (ps : List (Nat × Nat)) (f : Mk) (c : Nat) : Eng := { Eng.base id f c with own := ps.foldl (addOwn f) [] }
theorem rts_lo {lo lo' : Nat} {w : World} {q : Nat} {L : List E} {v : Value} (h : RtsAt lo w q L v) (hl : lo' ≤ lo) : RtsAt lo' w q L v :=
  ⟨h.row, gtop (t := 173) (k := 7) (cl := E.cl) h.own hl, h.ne, Nat.le_trans hl h.le⟩
theorem info134 : (Tryz.prog.info? 134).map (fun i => (i.zero, i.size, i.bytes)) = some (some (.agg #[.int .u32 0, .int .u8 0, .int .u16 0]), 3, 12) := by kernel_rfl
theorem hm_one (x : Hm) : ∀ u ∈ Hm.cl x, u.oneCell' = true := by
  intro u hu
  simp [Hm.cl] at hu
  rcases hu with rfl | rfl | rfl <;> rfl
theorem hmapp (w : World) (B : Nat) (v : Value) (l ys : List Hm) (A : Option Addr) (m c : Nat) (hown : GOwn 134 3 Hm.cl w B v l) (hm : m = ys.length) (hs : GSl 3 Hm.cl w A ys) (hA : A = none → c = 0) (hlen : l.length ≤ 1000) (hmn : m ≤ 1000) (hB : B ≤ w.heap.size) :
    ∃ v' w', (Builtin.append_ #[88, 88] 88 #[v, .slice A m c]).run Tryz.prog w = .ok v' w' ∧ GOwn 134 3 Hm.cl w' B v' (l ++ ys) ∧ w.grownBy w' v.ownBlock ∧ (v'.ownBlock = v.ownBlock ∨ v'.ownBlock = some w.heap.size) := by
  obtain ⟨i0, hi0, hz0, hz1, hz2⟩ := info_parts info134
  exact gappm Tryz.underlying88 hi0 hz0 hz1 hz2 rfl (by decide) (fun _ => rfl) hm_one (by decide) w B v l ys A m c hown hm hs hA hlen hmn hB
theorem addOwn_ok {f : Mk} (hf : ∀ a n m, f a n = some m → m.1 < 65536) {own : List Hm} (ho : ∀ h ∈ own, h.a < 4294967296 ∧ Pre.right h.a h.n = true ∧ h.n < 256 ∧ h.s < 65536) {p : Nat × Nat} (h1 : p.1 < 4294967296) (h2 : p.2 < 256) : (∀ h ∈ addOwn f own p, h.a < 4294967296 ∧ Pre.right h.a h.n = true ∧ h.n < 256 ∧ h.s < 65536) ∧ (addOwn f own p).length ≤ own.length + 1 := by
  unfold addOwn
  split
  · rename_i hc
    refine ⟨fun h hm => ?_, by rw [List.length_append]; exact Nat.le_refl _⟩
    rcases List.mem_append.1 hm with hm | hm
    · exact ho h hm
    · rw [List.mem_singleton] at hm
      subst hm
      refine ⟨h1, hc.1, h2, ?_⟩
      show wantS f p.1 p.2 < 65536
      unfold wantS
      split
      · decide
      · exact Nat.mod_lt _ (by decide)
  · exact ⟨ho, Nat.le_succ _⟩
theorem base_ok {id c : Nat} {f : Mk} (hid : id < 16) (hc : c ≤ 230) {own : List Hm} (ho : ∀ h ∈ own, h.a < 4294967296 ∧ Pre.right h.a h.n = true ∧ h.n < 256 ∧ h.s < 65536) (hl : own.length ≤ 100) : ({ Eng.base id f c with own := own } : Eng).Ok :=
  ⟨hid, List.Pairwise.nil, Nat.zero_le _, fun x hx => (by cases hx), List.Pairwise.nil, fun x hx => (by cases hx), Nat.zero_le _, List.Pairwise.nil, fun x hx => (by cases hx), Nat.zero_le _, ho, hl, List.Pairwise.nil, fun x hx => (by cases hx), Nat.zero_le _, Nat.zero_le _, hc, ⟨Nat.zero_le _, Nat.zero_le _, Nat.zero_le _, Nat.zero_le _, Nat.zero_le _⟩⟩
structure NewI (w : World) (q : Nat) (e : Eng) (wr : World) : Prop where
  ex : ∃ m, EngAt w.heap.size wr q e m ∧ ∀ k, m.X q k → w.heap.size ≤ k
  b : Below w.heap.size w wr
theorem NewI.step {w wr w' : World} {q : Nat} {e : Eng} (h : NewI w q e wr) (B : Below wr.heap.size wr w') : NewI w q e w' := by
  obtain ⟨⟨m, a, g⟩, b⟩ := h
  exact ⟨⟨m, a.step B, g⟩, b.trans (B.mono b.size)⟩
set_option maxHeartbeats 8000000 in
theorem new_eng (w : World) (id : Nat) (hid : id < 16) (A : Option Addr) (n c : Nat) (ps : List (Nat × Nat)) (hn : n = ps.length) (hs : GSl 2 clP w A ps) (hps : ∀ p ∈ ps, p.1 < 4294967296 ∧ p.2 < 256) (hl : ps.length ≤ 90) (rows : Value) (f : Mk) (cf : Nat) (hcf : cf ≤ 230) (hf : ∀ a n m, f a n = some m → m.1 < 65536) (hof : Calls Tryz.prog 71 #[rows] w fun e w' => ∃ q, e = .returned (.pointer (some ⟨q, 0, none⟩)) ∧ SrcAt w.heap.size w' q f cf ∧ Below w.heap.size w w') (hT : Lk.Tab w) :
    Calls Tryz.prog 32 #[.int .i64 (id : Int), .slice A n c, rows] w fun en w' => ∃ q, en = .returned (.pointer (some ⟨q, 0, none⟩)) ∧ NewI w q (Eng.new id ps f cf) w' ∧ (Eng.new id ps f cf).Ok := by
  have HOF := Lib.hid hof
  have HH := Lib.hid (And.intro hid (And.intro hn (And.intro hs (And.intro hps (And.intro hl (And.intro hcf (And.intro hf hT)))))))
  have hn9 : n ≤ 90 := by omega
  have h0 := Lk.tab_size hT
  clear hof hid hn hs hps hl hcf hf hT
  have HR := Lib.hid (fun W => Rts.new_any W)
  go_enter Tryz.func32, Tryz.ntmps32
  go_upto_region 3 with (first
    | (go_at_call 71; (with_reducible refine HOF.out.mono ?_); rintro en w1 ⟨qs, rfl, hS, B1⟩; have HS := Lib.hid (And.intro hS B1); clear hS B1)
    | (go_at_call 72; (with_reducible refine (HR.out _).mono ?_); rintro en w2 ⟨rfl, hr2, B2⟩; have HR2 := Lib.hid (And.intro hr2 B2); clear hr2 B2))
  have hEng : NewI w w2.heap.size (Eng.base id f cf) (w2.alloc (.cells #[.int .i64 (id : Int), .slice none 0 0, .pointer (some ⟨qs, 0, none⟩), .pointer (some ⟨w1.heap.size, 0, none⟩), .slice none 0 0, .slice none 0 0, .int .i64 0, .int .i64 0, .int .i64 0, .int .i64 0, .int .u64 0, .bool true, .slice none 0 0, .slice none 0 0] 95)) := by
    have B12 := HS.out.2.trans (HR2.out.2.mono HS.out.2.size)
    have BA := (Below.refl w2.heap.size w2).alloc (Nat.le_refl _) (.cells #[.int .i64 (id : Int), .slice none 0 0, .pointer (some ⟨qs, 0, none⟩), .pointer (some ⟨w1.heap.size, 0, none⟩), .slice none 0 0, .slice none 0 0, .int .i64 0, .int .i64 0, .int .i64 0, .int .i64 0, .int .u64 0, .bool true, .slice none 0 0, .slice none 0 0] 95)
    have hsz := HS.out.2.size
    have hsz2 := HR2.out.2.size
    refine ⟨⟨⟨qs, w1.heap.size, .slice none 0 0, .slice none 0 0, .slice none 0 0, .slice none 0 0, .slice none 0 0, .slice none 0 0, []⟩, ?_⟩, B12.trans (BA.mono (by omega))⟩
    have hE : EngAt w.heap.size (w2.alloc (.cells #[.int .i64 (id : Int), .slice none 0 0, .pointer (some ⟨qs, 0, none⟩), .pointer (some ⟨w1.heap.size, 0, none⟩), .slice none 0 0, .slice none 0 0, .int .i64 0, .int .i64 0, .int .i64 0, .int .i64 0, .int .u64 0, .bool true, .slice none 0 0, .slice none 0 0] 95)) w2.heap.size (Eng.base id f cf) ⟨qs, w1.heap.size, .slice none 0 0, .slice none 0 0, .slice none 0 0, .slice none 0 0, .slice none 0 0, .slice none 0 0, []⟩ :=
      ⟨heap_alloc_new w2 _, by omega, ⟨GOwn.nil _ _ _ _ _, (HS.out.1.below HR2.out.2).below BA, rts_lo (HR2.out.1.kept BA) hsz, GOwn.nil _ _ _ _ _, rfl, fun x hx => (by cases hx), List.nodup_nil, GOwn.nil _ _ _ _ _, GOwn.nil _ _ _ _ _, GOwn.nil _ _ _ _ _, Lk.tab_below HH.out.2.2.2.2.2.2.2 (B12.trans (BA.mono (by omega))) h0, h0⟩⟩
    exact ⟨hE, fun k hk => (hE.x_lt hk).1⟩
  have HI0 := Lib.hid hEng
  clear hEng HS HR2 HR
  generalize w2.alloc _ = w3 at *
  generalize w2.heap.size = q at *
  go_wp2
  go_loopw [22] (fun i wr => ∃ j : Nat, j ≤ n ∧ i = .int .i64 j ∧ Hid (NewI w q { Eng.base id f cf with own := (ps.take j).foldl (addOwn f) [] } wr ∧ (∀ h ∈ (ps.take j).foldl (addOwn f) [], h.a < 4294967296 ∧ Pre.right h.a h.n = true ∧ h.n < 256 ∧ h.s < 65536) ∧ ((ps.take j).foldl (addOwn f) []).length ≤ j)) (fun i _ => n - (intOf i).toNat)
  case atStart => exact ⟨0, Nat.zero_le _, rfl, HI0.out, by simp, by simp⟩
  case round =>
    obtain ⟨j, hj, rfl, HR⟩ := hrel
    clear HI0
    by_cases hlt : j < n
    · have hjl : j < ps.length := by rw [← HH.out.2.1]; exact hlt
      have hs1 : GSl 2 clP wr A ps := fun j' hj' => by
        obtain ⟨b', o', e', hb', hc'⟩ := HH.out.2.2.1 j' hj'
        exact ⟨b', o', e', Nat.lt_of_lt_of_le hb' HR.out.1.b.size, fun i hi => (World.cell?_of_block (a := ⟨b', o' + j' * 2 + i, none⟩) (HR.out.1.b.block b' hb')).trans (hc' i hi)⟩
      obtain ⟨bb, oo, rfl, hbb, hc0⟩ := hs1 j hjl
      have hc := PxAt.of hc0
      have hpo := HH.out.2.2.2.1 _ (List.getElem_mem hjl)
      have hnx : (ps.take (j + 1)).foldl (addOwn f) [] = addOwn f ((ps.take j).foldl (addOwn f) []) ps[j] := by
        rw [List.take_succ_eq_append_getElem hjl, List.foldl_append]; rfl
      have hok9 := addOwn_ok HH.out.2.2.2.2.2.2.1 HR.out.2.1 hpo.1 hpo.2
      have HNX : Hid (∀ w', NewI w q { Eng.base id f cf with own := addOwn f ((ps.take j).foldl (addOwn f) []) ps[j] } w' → NewI w q { Eng.base id f cf with own := (ps.take (j + 1)).foldl (addOwn f) [] } w' ∧ (∀ h ∈ (ps.take (j + 1)).foldl (addOwn f) [], h.a < 4294967296 ∧ Pre.right h.a h.n = true ∧ h.n < 256 ∧ h.s < 65536) ∧ ((ps.take (j + 1)).foldl (addOwn f) []).length ≤ j + 1) := Lib.hid fun w' h9 => by
        rw [hnx]
        exact ⟨h9, hok9.1, Nat.le_trans hok9.2 (Nat.succ_le_succ HR.out.2.2)⟩
      have hOKj := base_ok (id := id) (f := f) HH.out.1 HH.out.2.2.2.2.2.1 HR.out.2.1 (by have := HR.out.2.2; omega)
      have HOW := Lib.hid (And.intro HR.out.2.2 hOKj)
      have HJ := Lib.hid HR.out.1
      clear HR hnx hok9 hc0 hs1 hOKj
      generalize (ps.take j).foldl (addOwn f) [] = own at *
      generalize ps[j] = p at *
      obtain ⟨a, pn⟩ := p
      simp only at hc hpo HNX
      obtain ⟨k0, k1⟩ := hc
      have HPO := Lib.hid hpo
      clear hpo
      go_upto_region 6 with (fail)
      clear k0 k1 hbb
      have BA := (Below.refl wr.heap.size wr).alloc (Nat.le_refl _) (.cells #[.int .u32 (a : Int), .int .u8 (pn : Int)] 30)
      have HX := Lib.hid (heap_alloc_new wr (.cells #[.int .u32 (a : Int), .int .u8 (pn : Int)] 30))
      replace HJ := Lib.hid (HJ.out.step BA)
      clear BA
      generalize wr.alloc _ = wx at *
      generalize wr.heap.size = y at *
      obtain ⟨x0, x1, -⟩ := row2 HX.out
      obtain ⟨m, hE, hXg⟩ := HJ.out.ex
      have HE := Lib.hid hE
      clear hE hXg
      obtain ⟨A1, c1, hv1, -⟩ := gsl_of HE.out.p.own (fun _ => rfl)
      have hcc := HE.out.ec.c1
      rw [hv1] at hcc
      have hql := HE.out.lt
      change _ = some (Value.slice A1 own.length c1) at hcc
      have hol : own.length ≤ 90 := by have := HOW.out.1; omega
      obtain ⟨N1, hN1⟩ : ∃ N1, N1 = own.length := ⟨_, rfl⟩
      rw [← hN1] at hcc hol
      have HN1 := Lib.hid (And.intro hN1 hv1)
      clear hN1 hv1
      have HRT := Lib.hid (fun W => Pre.right_any a pn HPO.out.1 (by have := HPO.out.2; omega) W)
      by_cases hr : Pre.right a pn = true
      · rw [hr] at HRT
        by_cases ho : own.any (Hm.is a pn) = true
        · have HADD := Lib.hid (show addOwn f own (a, pn) = own by unfold addOwn; rw [if_neg (by simp [ho])])
          obtain ⟨i, hi, hg⟩ : ∃ i, ∃ hi : i < own.length, gidx (Hm.is a pn) own = (i : Int) := by
            have hl := List.findIdx_lt_length.2 (List.any_eq_true.1 ho)
            refine ⟨own.findIdx (Hm.is a pn), hl, ?_⟩
            unfold gidx
            rw [if_pos ho]
          obtain ⟨A2, c2, hv2, -, hs2, hA2⟩ := gsl_of HE.out.p.own (fun _ => rfl)
          obtain ⟨b2, o2, e2, -, -⟩ := hs2 i hi
          have HC := Lib.hid (fun W (B : Below wx.heap.size wx W) => home_some W _ q _ m (HE.out.step B) a pn (by show own.length ≤ 1000; have := HOW.out.1; omega) i b2 (hA2 b2 o2 e2).1 hg hi)
          clear hg hi hv2 hs2 hA2 e2 ho hr
          go_wp2_with (first
            | (go_at_call 73; (with_reducible refine (HRT.out _).mono ?_); rintro en w5 ⟨rfl, B5⟩; have HB5 := Lib.hid B5; obtain ⟨x0, x1, -⟩ := row2 (brow B5 HX.out); have hyl := (Array.getElem?_eq_some_iff.1 (brow B5 HX.out)).1; clear B5)
            | (go_at_call 74; (with_reducible refine (HC.out _ HB5.out).mono ?_); rintro en w6 ⟨rfl, B6⟩; have HV := Lib.hid (HNX.out _ (by rw [HADD.out]; exact (HJ.out.step HB5.out).step B6)); clear B6))
          go_roundw
          case rel => exact ⟨j + 1, by omega, by go_num, HV.out⟩
          case measure => simp [intOf]; omega
        · have hof : own.any (Hm.is a pn) = false := by simpa using ho
          have HADD := Lib.hid (show addOwn f own (a, pn) = own ++ [⟨a, pn, wantS f a pn⟩] by unfold addOwn; rw [if_pos ⟨hr, hof⟩])
          have HC := Lib.hid (fun W (B : Below wx.heap.size wx W) => home_none W _ q _ m (HE.out.step B) a pn (by show own.length ≤ 1000; have := HOW.out.1; omega) hof)
          clear ho hr hof
          go_upto_region 7 with (first
            | (go_at_call 73; (with_reducible refine (HRT.out _).mono ?_); rintro en w5 ⟨rfl, B5⟩; have HB5 := Lib.hid B5; obtain ⟨x0, x1, -⟩ := row2 (brow B5 HX.out); have hyl := (Array.getElem?_eq_some_iff.1 (brow B5 HX.out)).1; clear B5)
            | (go_at_call 74; (with_reducible refine (HC.out _ HB5.out).mono ?_); rintro en w6 ⟨rfl, B6⟩; have HE0 := Lib.hid ((HE.out.step HB5.out).step B6); have HJ6 := Lib.hid ((HJ.out.step HB5.out).step B6); have HX6 := Lib.hid (brow B6 (brow HB5.out HX.out)); clear B6))
          clear hcc HC HRT x0 x1
          obtain ⟨s, hs9⟩ : ∃ s, s = wantS f a pn := ⟨_, rfl⟩
          have HWS := Lib.hid (fun W (hE : EngAt w.heap.size W q { Eng.base id f cf with own := own } m) => firstS_any W m.qs f cf hE.p.src a pn HPO.out.1 HPO.out.2)
          rw [← hs9] at HWS HADD
          have HV := Lib.hid HN1.out.2
          have hvv : m.vo = .slice A1 N1 c1 := by rw [HN1.out.1]; exact HV.out
          replace HV := Lib.hid hvv
          have HNB := Lib.hid (show own.length ≤ 90 by rw [← HN1.out.1]; exact hol)
          have HQ := Lib.hid (HE0.out.ec.c2)
          have HR := Lib.hid (And.intro HX6.out (show ¬ (y = q ∨ m.vo.ownBlock = some y) from fun e9 => by
            rcases e9 with e9 | e9
            · exact row_ne HX6.out HE0.out.row (by decide) e9
            · exact HE0.out.p.own.ne HX6.out (by decide) e9))
          clear hs9 hvv HE HX HX6 HB5 hol
          generalize w6 = w1 at *
          have HE := Lib.hid (HE0.out.step ((Below.refl _ w1).drew))
          have hS0 : (fun y9 : World => Fr (fun j9 => j9 = q ∨ m.vo.ownBlock = some j9) w1 y9 ∧ y9.cell? ⟨q, 2, none⟩ = some (.pointer (some ⟨m.qs, 0, none⟩))) w1.drew := ⟨Fr.of ((Below.refl _ w1).drew), HQ.out⟩
          refine wp_region_noPanic ?_
          refine wp_region_held_drew (S := fun y9 : World => Fr (fun j9 => j9 = q ∨ m.vo.ownBlock = some j9) w1 y9 ∧ y9.cell? ⟨q, 2, none⟩ = some (.pointer (some ⟨m.qs, 0, none⟩))) (by kernel_rfl) hS0 (fun hHeld => ?_)
          clear hS0
          generalize w1.drew = wd at *
          refine wpAnyH_take (i := 0) (oi := ⟨some 42, .move (.tmp 7), 24, "engine.go:58", #[], none⟩) (v := .pointer (some ⟨q, 0, none⟩)) rfl (by kernel_rfl) (by kernel_rfl) (by kernel_rfl) (fun _ _ _ h => h) (Or.inl ⟨by rfl, fun w hSw => by go_simp⟩) (by assumption) ?_
          try simp only [Act.put, List.setIfInBounds_toArray, List.set_cons_zero, List.set_cons_succ]
          refine wpAnyH_take (i := 1) (oi := ⟨some 43, .move (.tmp 7), 24, "engine.go:58", #[], none⟩) (v := .pointer (some ⟨q, 0, none⟩)) rfl (by kernel_rfl) (by kernel_rfl) (by kernel_rfl) (fun _ _ _ h => h) (Or.inl ⟨by rfl, fun w hSw => by go_simp⟩) (by assumption) ?_
          try simp only [Act.put, List.setIfInBounds_toArray, List.set_cons_zero, List.set_cons_succ]
          refine wpAnyH_take (i := 2) (oi := ⟨some 44, .nilCheck (.tmp 43), 0, "engine.go:58", #[⟨1, .data⟩], none⟩) (v := .pointer (some ⟨q, 0, none⟩)) rfl (by kernel_rfl) (by kernel_rfl) (by kernel_rfl) (fun _ _ _ h => h) (Or.inl ⟨by rfl, fun w hSw => by go_simp⟩) (by assumption) ?_
          try simp only [Act.put, List.setIfInBounds_toArray, List.set_cons_zero, List.set_cons_succ]
          refine wpAnyH_take (i := 3) (oi := ⟨some 45, .fieldAddr 95 (.tmp 44) 1, 0, "engine.go:58", #[⟨2, .data⟩], none⟩) (v := .pointer (some ⟨q, 1, none⟩)) rfl (by kernel_rfl) (by kernel_rfl) (by kernel_rfl) (fun _ _ _ h => h) (Or.inl ⟨by rfl, fun w hSw => by go_simp⟩) (by assumption) ?_
          try simp only [Act.put, List.setIfInBounds_toArray, List.set_cons_zero, List.set_cons_succ]
          refine wpAnyH_take (i := 5) (oi := ⟨some 47, .load 30 (.tmp 9), 30, "engine.go:58", #[], none⟩) (v := .agg #[.int .u32 (a : Int), .int .u8 (pn : Int)]) rfl (by kernel_rfl) (by kernel_rfl) (by kernel_rfl) (fun _ _ _ h => h) (Or.inl ⟨by rfl, fun w hSw => by obtain ⟨p0, p1, -⟩ := row2 (hSw.1.row HR.out.1 HR.out.2); go_simp⟩) (by assumption) ?_
          try simp only [Act.put, List.setIfInBounds_toArray, List.set_cons_zero, List.set_cons_succ]
          refine wpAnyH_take (i := 6) (oi := ⟨some 48, .move (.tmp 7), 24, "engine.go:58", #[], none⟩) (v := .pointer (some ⟨q, 0, none⟩)) rfl (by kernel_rfl) (by kernel_rfl) (by kernel_rfl) (fun _ _ _ h => h) (Or.inl ⟨by rfl, fun w hSw => by go_simp⟩) (by assumption) ?_
          try simp only [Act.put, List.setIfInBounds_toArray, List.set_cons_zero, List.set_cons_succ]
          refine wpAnyH_take (i := 7) (oi := ⟨some 49, .nilCheck (.tmp 48), 0, "engine.go:58", #[⟨6, .data⟩], none⟩) (v := .pointer (some ⟨q, 0, none⟩)) rfl (by kernel_rfl) (by kernel_rfl) (by kernel_rfl) (fun _ _ _ h => h) (Or.inl ⟨by rfl, fun w hSw => by go_simp⟩) (by assumption) ?_
          try simp only [Act.put, List.setIfInBounds_toArray, List.set_cons_zero, List.set_cons_succ]
          refine wpAnyH_take (i := 8) (oi := ⟨some 50, .fieldAddr 95 (.tmp 49) 2, 0, "engine.go:58", #[⟨7, .data⟩], none⟩) (v := .pointer (some ⟨q, 2, none⟩)) rfl (by kernel_rfl) (by kernel_rfl) (by kernel_rfl) (fun _ _ _ h => h) (Or.inl ⟨by rfl, fun w hSw => by go_simp⟩) (by assumption) ?_
          try simp only [Act.put, List.setIfInBounds_toArray, List.set_cons_zero, List.set_cons_succ]
          refine wpAnyH_take (i := 9) (oi := ⟨some 51, .load 89 (.tmp 50), 89, "engine.go:58", #[⟨8, .data⟩], none⟩) (v := .pointer (some ⟨m.qs, 0, none⟩)) rfl (by kernel_rfl) (by kernel_rfl) (by kernel_rfl) (fun _ _ _ h => h) (Or.inl ⟨by rfl, fun w hSw => by have c2 := hSw.2; go_simp⟩) (by assumption) ?_
          try simp only [Act.put, List.setIfInBounds_toArray, List.set_cons_zero, List.set_cons_succ]
          refine wpAnyH_take (i := 10) (oi := ⟨some 52, .load 30 (.tmp 9), 30, "engine.go:58", #[], none⟩) (v := .agg #[.int .u32 (a : Int), .int .u8 (pn : Int)]) rfl (by kernel_rfl) (by kernel_rfl) (by kernel_rfl) (fun _ _ _ h => h) (Or.inl ⟨by rfl, fun w hSw => by obtain ⟨p0, p1, -⟩ := row2 (hSw.1.row HR.out.1 HR.out.2); go_simp⟩) (by assumption) ?_
          try simp only [Act.put, List.setIfInBounds_toArray, List.set_cons_zero, List.set_cons_succ]
          refine wpAnyH_ready (rs := [4, 11]) (by kernel_rfl) (by simp) ?_
          refine (AllReadyH.cons (o := ⟨some 46, .load 88 (.tmp 45), 88, "engine.go:58", #[⟨3, .data⟩], none⟩) rfl (fun K hK => ?_) (AllReadyH.cons (o := ⟨some 53, .call ⟨.value (.func 75), #[.tmp 51, .tmp 52], #[89, 30]⟩, 22, "engine.go:58", #[⟨9, .data⟩, ⟨10, .data⟩], none⟩) rfl (fun K hK => ?_) AllReadyH.nil))
          · have c1 := HE.out.ec.c1
            rw [HV.out] at c1
            have hql := HE.out.lt
            go_simp
            refine hK.out _ _ (hHeld) (fun hHeld2 => ?_)
            clear hK K hHeld
            have hHeld := hHeld2
            clear hHeld2
            try simp only [Act.put, List.setIfInBounds_toArray, List.set_cons_zero, List.set_cons_succ]
            clear c1 hql
            refine wpAnyH_ready (rs := [11]) (by kernel_rfl) (by simp) ?_
            refine (AllReadyH.cons (o := ⟨some 53, .call ⟨.value (.func 75), #[.tmp 51, .tmp 52], #[89, 30]⟩, 22, "engine.go:58", #[⟨9, .data⟩, ⟨10, .data⟩], none⟩) rfl (fun K hK => ?_) AllReadyH.nil)
            have hcs := HWS.out wd HE.out
            go_simp
            with_reducible refine hcs.mono ?_
            rintro en wd2 ⟨rfl, B3⟩
            have HE2 := Lib.hid (HE.out.step B3)
            have hc2 := HE2.out.ec.c2
            refine hK.out _ _ (⟨hHeld.1.step B3, hc2⟩) (fun hHeld2 => ?_)
            clear hK K hHeld
            have hHeld := hHeld2
            clear hHeld2
            try simp only [Act.put, List.setIfInBounds_toArray, List.set_cons_zero, List.set_cons_succ]
            clear HE hcs hc2 B3
            generalize wd2 = wd at *
            have HE := HE2
            clear HE2
            refine wpAnyH_take (i := 12) (oi := ⟨some 54, .build 134 #[(0, .tmp 47), (1, .tmp 53)], 134, "engine.go:58", #[⟨5, .data⟩, ⟨11, .data⟩], none⟩) (v := .agg #[.int .u32 (a : Int), .int .u8 (pn : Int), .int .u16 (s : Int)]) rfl (by kernel_rfl) (by kernel_rfl) (by kernel_rfl) (fun _ _ _ h => h) (Or.inl ⟨by rfl, fun w hSw => by go_simp⟩) (by assumption) ?_
            try simp only [Act.put, List.setIfInBounds_toArray, List.set_cons_zero, List.set_cons_succ]
            refine wpAnyH_ready (rs := [13]) (by kernel_rfl) (by simp) ?_
            refine (AllReadyH.cons (o := ⟨some 55, .buildSlice 88 1 #[(0, .tmp 54)], 88, "engine.go:58", #[⟨12, .data⟩], none⟩) rfl (fun K hK => ?_) AllReadyH.nil)
            have BA := (Below.refl wd.heap.size wd).alloc (Nat.le_refl _) (.cells #[.int .u32 (a : Int), .int .u8 (pn : Int), .int .u16 (s : Int)] 134)
            have hc2 := (HE.out.step BA).ec.c2
            go_simp
            refine hK.out _ _ (⟨hHeld.1.step BA, hc2⟩) (fun hHeld2 => ?_)
            clear hK K hHeld
            have hHeld := hHeld2
            clear hHeld2
            try simp only [Act.put, List.setIfInBounds_toArray, List.set_cons_zero, List.set_cons_succ]
            have hrow : (wd.alloc (.cells #[.int .u32 (a : Int), .int .u8 (pn : Int), .int .u16 (s : Int)] 134)).heap[wd.heap.size]? = some (.cells (Hm.cl ⟨a, pn, s⟩).toArray 134 (0, 0)) := heap_alloc_new wd (.cells #[.int .u32 (a : Int), .int .u8 (pn : Int), .int .u16 (s : Int)] 134)
            have HGS := Lib.hid (gsl_row (k := 3) hrow)
            have HE2 := Lib.hid (HE.out.step BA)
            clear BA HE hrow hc2
            generalize wd.alloc _ = wd3 at *
            generalize wd.heap.size = z at *
            generalize wd3 = wd at *
            have HE := HE2
            clear HE2
            refine wpAnyH_ready (rs := [14]) (by kernel_rfl) (by simp) ?_
            refine (AllReadyH.cons (o := ⟨some 56, .call ⟨.builtin .append, #[.tmp 46, .tmp 55], #[88, 88]⟩, 88, "engine.go:58", #[⟨4, .data⟩, ⟨13, .data⟩, ⟨11, .chain⟩], none⟩) rfl (fun K hK => ?_) AllReadyH.nil)
            obtain ⟨v5, wd2, hrun, O5, G5, L5⟩ := hmapp wd w.heap.size (.slice A1 N1 c1) own [⟨a, pn, s⟩] (some ⟨z, 0, none⟩) 1 1 (by rw [← HV.out]; exact HE.out.p.own) rfl HGS.out (fun h => by cases h) (by have := HNB.out; omega) (by decide) HE.out.los
            rw [← HV.out] at G5 L5
            refine Lib.wp_append_run _ (.tmp 46) (.tmp 55) 88 88 rfl _ _ rfl rfl _ _ hrun ?_
            obtain ⟨A5, n5, c5, hv5⟩ : ∃ A5 n5 c5, v5 = .slice A5 n5 c5 := by
              obtain ⟨A5, c5, hv5, -⟩ := O5.form (fun _ => rfl)
              exact ⟨_, _, _, hv5⟩
            have F5 : Fr (fun j9 => m.vo.ownBlock = some j9) wd wd2 := Fr.grown G5 (fun j9 e => e)
            have HP5 := Lib.hid (HE.out.p.own' F5 O5)
            have HRW := Lib.hid (F5.row HE.out.row (HE.out.apart).2.2.2.1)
            have HMV := Lib.hid (show Moved w1 m.vo v5 from L5.imp_right fun h b e9 => by
              rw [h] at e9
              have e9 := Option.some.inj e9
              have := hHeld.1.size
              omega)
            have hHeld3 := hHeld.1.trans (Fr.grown (X := fun j9 => j9 = q ∨ m.vo.ownBlock = some j9) G5 (fun k e => Or.inr e))
            have hc2 : wd2.cell? ⟨q, 2, none⟩ = some (.pointer (some ⟨m.qs, 0, none⟩)) := cell_of_row wd2 q 2 _ 95 (0, 0) HRW.out
            subst hv5
            clear O5 G5 L5 F5 hrun HE
            refine hK.out _ _ (⟨hHeld3, hc2⟩) (fun hHeld2 => ?_)
            clear hK K hHeld
            have hHeld := hHeld2
            clear hHeld2
            try simp only [Act.put, List.setIfInBounds_toArray, List.set_cons_zero, List.set_cons_succ]
            clear hHeld3 hc2
            generalize wd2 = wd at *
            refine wpAnyH_take (i := 15) (oi := ⟨some 57, .nilCheck (.tmp 42), 0, "engine.go:58", #[⟨0, .data⟩, ⟨0, .phase⟩, ⟨1, .phase⟩, ⟨2, .phase⟩, ⟨3, .phase⟩, ⟨4, .phase⟩, ⟨5, .phase⟩, ⟨6, .phase⟩, ⟨7, .phase⟩, ⟨8, .phase⟩, ⟨9, .phase⟩, ⟨10, .phase⟩, ⟨11, .phase⟩, ⟨12, .phase⟩, ⟨13, .phase⟩, ⟨14, .phase⟩], none⟩) (v := .pointer (some ⟨q, 0, none⟩)) rfl (by kernel_rfl) (by kernel_rfl) (by kernel_rfl) (fun _ _ _ h => h) (Or.inl ⟨by rfl, fun w hSw => by go_simp⟩) (by assumption) ?_
            try simp only [Act.put, List.setIfInBounds_toArray, List.set_cons_zero, List.set_cons_succ]
            refine wpAnyH_take (i := 16) (oi := ⟨some 58, .fieldAddr 95 (.tmp 57) 1, 0, "engine.go:58", #[⟨15, .data⟩, ⟨0, .phase⟩, ⟨1, .phase⟩, ⟨2, .phase⟩, ⟨3, .phase⟩, ⟨4, .phase⟩, ⟨5, .phase⟩, ⟨6, .phase⟩, ⟨7, .phase⟩, ⟨8, .phase⟩, ⟨9, .phase⟩, ⟨10, .phase⟩, ⟨11, .phase⟩, ⟨12, .phase⟩, ⟨13, .phase⟩, ⟨14, .phase⟩], none⟩) (v := .pointer (some ⟨q, 1, none⟩)) rfl (by kernel_rfl) (by kernel_rfl) (by kernel_rfl) (fun _ _ _ h => h) (Or.inl ⟨by rfl, fun w hSw => by go_simp⟩) (by assumption) ?_
            try simp only [Act.put, List.setIfInBounds_toArray, List.set_cons_zero, List.set_cons_succ]
            refine wpAnyH_ready (rs := [17]) (by kernel_rfl) (by simp) ?_
            refine (AllReadyH.cons (o := ⟨none, .store 88 (.tmp 58) (.tmp 56), 0, "engine.go:58", #[⟨16, .data⟩, ⟨14, .data⟩, ⟨14, .chain⟩, ⟨0, .phase⟩, ⟨1, .phase⟩, ⟨2, .phase⟩, ⟨3, .phase⟩, ⟨4, .phase⟩, ⟨5, .phase⟩, ⟨6, .phase⟩, ⟨7, .phase⟩, ⟨8, .phase⟩, ⟨9, .phase⟩, ⟨10, .phase⟩, ⟨11, .phase⟩, ⟨12, .phase⟩, ⟨13, .phase⟩, ⟨14, .phase⟩], none⟩) rfl (fun K hK => ?_) AllReadyH.nil)
            have hc4 := cell_of_row wd q 1 _ 95 (0, 0) HRW.out
            have hf4 := frozen_of_row wd q 1 _ 95 HRW.out
            have hql := (Array.getElem?_eq_some_iff.1 HRW.out).1
            have hI := EngAt.put HRW.out HE0.out.le HP5.out 1 (.slice A5 n5 c5) rfl
            have hc2 : (wd.setCell ⟨q, 1, none⟩ (.slice A5 n5 c5)).cell? ⟨q, 2, none⟩ = some (.pointer (some ⟨m.qs, 0, none⟩)) := hI.ec.c2
            have HI := Lib.hid hI
            clear hI
            go_simp
            refine hK.out _ _ (⟨hHeld.1.trans (Fr.grown (grown_setCell wd q 1 _) (fun k e => Or.inl (Option.some.inj e).symm)), hc2⟩) (fun hHeld2 => ?_)
            clear hK K hHeld
            have hHeld := hHeld2
            clear hHeld2
            try simp only [Act.put, List.setIfInBounds_toArray, List.set_cons_zero, List.set_cons_succ]
            clear hc4 hf4 hql hc2 HP5 HRW
            generalize wd.setCell _ _ = wd9 at *
            generalize wd9 = wd at *
            refine wpAnyH_done (by kernel_rfl) ?_ _
            try unfold NoPanic
            have HF := Lib.hid hHeld.1
            clear hHeld
            have HN := Lib.hid (show ES w.heap.size w1 q m { Eng.base id f cf with own := own ++ [⟨a, pn, s⟩] } wd from ⟨_, HI.out, Ef.frm HF.out HE0.out.los (fun k hk => by
              rcases hk with rfl | hk
              · exact HE0.out.le
              · exact (HE0.out.p.own.lt hk).1) (fun k hk => by
              rcases hk with rfl | hk
              · exact Or.inl rfl
              · exact .inr (.inr (.inr (.inr (.inl hk))))), fun k hk => Mem.x_own HMV.out hk, rfl⟩)
            clear HI HF HMV
            have HV := Lib.hid (HNX.out wd (by
              rw [HADD.out]
              obtain ⟨m9, a9, f9, -, -⟩ := HN.out
              exact ⟨⟨m9, a9, fun k hk => (a9.x_lt hk).1⟩, HJ6.out.b.trans f9.below⟩))
            go_wp2
            go_roundw
            case rel => exact ⟨j + 1, by omega, by go_num, HV.out⟩
            case measure => simp [intOf]; omega
          · have hcs := HWS.out wd HE.out
            go_simp
            with_reducible refine hcs.mono ?_
            rintro en wd2 ⟨rfl, B3⟩
            have HE2 := Lib.hid (HE.out.step B3)
            have hc2 := HE2.out.ec.c2
            refine hK.out _ _ (⟨hHeld.1.step B3, hc2⟩) (fun hHeld2 => ?_)
            clear hK K hHeld
            have hHeld := hHeld2
            clear hHeld2
            try simp only [Act.put, List.setIfInBounds_toArray, List.set_cons_zero, List.set_cons_succ]
            clear HE hcs hc2 B3
            generalize wd2 = wd at *
            have HE := HE2
            clear HE2
            refine wpAnyH_take (i := 12) (oi := ⟨some 54, .build 134 #[(0, .tmp 47), (1, .tmp 53)], 134, "engine.go:58", #[⟨5, .data⟩, ⟨11, .data⟩], none⟩) (v := .agg #[.int .u32 (a : Int), .int .u8 (pn : Int), .int .u16 (s : Int)]) rfl (by kernel_rfl) (by kernel_rfl) (by kernel_rfl) (fun _ _ _ h => h) (Or.inl ⟨by rfl, fun w hSw => by go_simp⟩) (by assumption) ?_
            try simp only [Act.put, List.setIfInBounds_toArray, List.set_cons_zero, List.set_cons_succ]
            refine wpAnyH_ready (rs := [4, 13]) (by kernel_rfl) (by simp) ?_
            refine (AllReadyH.cons (o := ⟨some 46, .load 88 (.tmp 45), 88, "engine.go:58", #[⟨3, .data⟩], none⟩) rfl (fun K hK => ?_) (AllReadyH.cons (o := ⟨some 55, .buildSlice 88 1 #[(0, .tmp 54)], 88, "engine.go:58", #[⟨12, .data⟩], none⟩) rfl (fun K hK => ?_) AllReadyH.nil))
            · have c1 := HE.out.ec.c1
              rw [HV.out] at c1
              have hql := HE.out.lt
              go_simp
              refine hK.out _ _ (hHeld) (fun hHeld2 => ?_)
              clear hK K hHeld
              have hHeld := hHeld2
              clear hHeld2
              try simp only [Act.put, List.setIfInBounds_toArray, List.set_cons_zero, List.set_cons_succ]
              clear c1 hql
              refine wpAnyH_ready (rs := [13]) (by kernel_rfl) (by simp) ?_
              refine (AllReadyH.cons (o := ⟨some 55, .buildSlice 88 1 #[(0, .tmp 54)], 88, "engine.go:58", #[⟨12, .data⟩], none⟩) rfl (fun K hK => ?_) AllReadyH.nil)
              have BA := (Below.refl wd.heap.size wd).alloc (Nat.le_refl _) (.cells #[.int .u32 (a : Int), .int .u8 (pn : Int), .int .u16 (s : Int)] 134)
              have hc2 := (HE.out.step BA).ec.c2
              go_simp
              refine hK.out _ _ (⟨hHeld.1.step BA, hc2⟩) (fun hHeld2 => ?_)
              clear hK K hHeld
              have hHeld := hHeld2
              clear hHeld2
              try simp only [Act.put, List.setIfInBounds_toArray, List.set_cons_zero, List.set_cons_succ]
              have hrow : (wd.alloc (.cells #[.int .u32 (a : Int), .int .u8 (pn : Int), .int .u16 (s : Int)] 134)).heap[wd.heap.size]? = some (.cells (Hm.cl ⟨a, pn, s⟩).toArray 134 (0, 0)) := heap_alloc_new wd (.cells #[.int .u32 (a : Int), .int .u8 (pn : Int), .int .u16 (s : Int)] 134)
              have HGS := Lib.hid (gsl_row (k := 3) hrow)
              have HE2 := Lib.hid (HE.out.step BA)
              clear BA HE hrow hc2
              generalize wd.alloc _ = wd3 at *
              generalize wd.heap.size = z at *
              generalize wd3 = wd at *
              have HE := HE2
              clear HE2
              refine wpAnyH_ready (rs := [14]) (by kernel_rfl) (by simp) ?_
              refine (AllReadyH.cons (o := ⟨some 56, .call ⟨.builtin .append, #[.tmp 46, .tmp 55], #[88, 88]⟩, 88, "engine.go:58", #[⟨4, .data⟩, ⟨13, .data⟩, ⟨11, .chain⟩], none⟩) rfl (fun K hK => ?_) AllReadyH.nil)
              obtain ⟨v5, wd2, hrun, O5, G5, L5⟩ := hmapp wd w.heap.size (.slice A1 N1 c1) own [⟨a, pn, s⟩] (some ⟨z, 0, none⟩) 1 1 (by rw [← HV.out]; exact HE.out.p.own) rfl HGS.out (fun h => by cases h) (by have := HNB.out; omega) (by decide) HE.out.los
              rw [← HV.out] at G5 L5
              refine Lib.wp_append_run _ (.tmp 46) (.tmp 55) 88 88 rfl _ _ rfl rfl _ _ hrun ?_
              obtain ⟨A5, n5, c5, hv5⟩ : ∃ A5 n5 c5, v5 = .slice A5 n5 c5 := by
                obtain ⟨A5, c5, hv5, -⟩ := O5.form (fun _ => rfl)
                exact ⟨_, _, _, hv5⟩
              have F5 : Fr (fun j9 => m.vo.ownBlock = some j9) wd wd2 := Fr.grown G5 (fun j9 e => e)
              have HP5 := Lib.hid (HE.out.p.own' F5 O5)
              have HRW := Lib.hid (F5.row HE.out.row (HE.out.apart).2.2.2.1)
              have HMV := Lib.hid (show Moved w1 m.vo v5 from L5.imp_right fun h b e9 => by
                rw [h] at e9
                have e9 := Option.some.inj e9
                have := hHeld.1.size
                omega)
              have hHeld3 := hHeld.1.trans (Fr.grown (X := fun j9 => j9 = q ∨ m.vo.ownBlock = some j9) G5 (fun k e => Or.inr e))
              have hc2 : wd2.cell? ⟨q, 2, none⟩ = some (.pointer (some ⟨m.qs, 0, none⟩)) := cell_of_row wd2 q 2 _ 95 (0, 0) HRW.out
              subst hv5
              clear O5 G5 L5 F5 hrun HE
              refine hK.out _ _ (⟨hHeld3, hc2⟩) (fun hHeld2 => ?_)
              clear hK K hHeld
              have hHeld := hHeld2
              clear hHeld2
              try simp only [Act.put, List.setIfInBounds_toArray, List.set_cons_zero, List.set_cons_succ]
              clear hHeld3 hc2
              generalize wd2 = wd at *
              refine wpAnyH_take (i := 15) (oi := ⟨some 57, .nilCheck (.tmp 42), 0, "engine.go:58", #[⟨0, .data⟩, ⟨0, .phase⟩, ⟨1, .phase⟩, ⟨2, .phase⟩, ⟨3, .phase⟩, ⟨4, .phase⟩, ⟨5, .phase⟩, ⟨6, .phase⟩, ⟨7, .phase⟩, ⟨8, .phase⟩, ⟨9, .phase⟩, ⟨10, .phase⟩, ⟨11, .phase⟩, ⟨12, .phase⟩, ⟨13, .phase⟩, ⟨14, .phase⟩], none⟩) (v := .pointer (some ⟨q, 0, none⟩)) rfl (by kernel_rfl) (by kernel_rfl) (by kernel_rfl) (fun _ _ _ h => h) (Or.inl ⟨by rfl, fun w hSw => by go_simp⟩) (by assumption) ?_
              try simp only [Act.put, List.setIfInBounds_toArray, List.set_cons_zero, List.set_cons_succ]
              refine wpAnyH_take (i := 16) (oi := ⟨some 58, .fieldAddr 95 (.tmp 57) 1, 0, "engine.go:58", #[⟨15, .data⟩, ⟨0, .phase⟩, ⟨1, .phase⟩, ⟨2, .phase⟩, ⟨3, .phase⟩, ⟨4, .phase⟩, ⟨5, .phase⟩, ⟨6, .phase⟩, ⟨7, .phase⟩, ⟨8, .phase⟩, ⟨9, .phase⟩, ⟨10, .phase⟩, ⟨11, .phase⟩, ⟨12, .phase⟩, ⟨13, .phase⟩, ⟨14, .phase⟩], none⟩) (v := .pointer (some ⟨q, 1, none⟩)) rfl (by kernel_rfl) (by kernel_rfl) (by kernel_rfl) (fun _ _ _ h => h) (Or.inl ⟨by rfl, fun w hSw => by go_simp⟩) (by assumption) ?_
              try simp only [Act.put, List.setIfInBounds_toArray, List.set_cons_zero, List.set_cons_succ]
              refine wpAnyH_ready (rs := [17]) (by kernel_rfl) (by simp) ?_
              refine (AllReadyH.cons (o := ⟨none, .store 88 (.tmp 58) (.tmp 56), 0, "engine.go:58", #[⟨16, .data⟩, ⟨14, .data⟩, ⟨14, .chain⟩, ⟨0, .phase⟩, ⟨1, .phase⟩, ⟨2, .phase⟩, ⟨3, .phase⟩, ⟨4, .phase⟩, ⟨5, .phase⟩, ⟨6, .phase⟩, ⟨7, .phase⟩, ⟨8, .phase⟩, ⟨9, .phase⟩, ⟨10, .phase⟩, ⟨11, .phase⟩, ⟨12, .phase⟩, ⟨13, .phase⟩, ⟨14, .phase⟩], none⟩) rfl (fun K hK => ?_) AllReadyH.nil)
              have hc4 := cell_of_row wd q 1 _ 95 (0, 0) HRW.out
              have hf4 := frozen_of_row wd q 1 _ 95 HRW.out
              have hql := (Array.getElem?_eq_some_iff.1 HRW.out).1
              have hI := EngAt.put HRW.out HE0.out.le HP5.out 1 (.slice A5 n5 c5) rfl
              have hc2 : (wd.setCell ⟨q, 1, none⟩ (.slice A5 n5 c5)).cell? ⟨q, 2, none⟩ = some (.pointer (some ⟨m.qs, 0, none⟩)) := hI.ec.c2
              have HI := Lib.hid hI
              clear hI
              go_simp
              refine hK.out _ _ (⟨hHeld.1.trans (Fr.grown (grown_setCell wd q 1 _) (fun k e => Or.inl (Option.some.inj e).symm)), hc2⟩) (fun hHeld2 => ?_)
              clear hK K hHeld
              have hHeld := hHeld2
              clear hHeld2
              try simp only [Act.put, List.setIfInBounds_toArray, List.set_cons_zero, List.set_cons_succ]
              clear hc4 hf4 hql hc2 HP5 HRW
              generalize wd.setCell _ _ = wd9 at *
              generalize wd9 = wd at *
              refine wpAnyH_done (by kernel_rfl) ?_ _
              try unfold NoPanic
              have HF := Lib.hid hHeld.1
              clear hHeld
              have HN := Lib.hid (show ES w.heap.size w1 q m { Eng.base id f cf with own := own ++ [⟨a, pn, s⟩] } wd from ⟨_, HI.out, Ef.frm HF.out HE0.out.los (fun k hk => by
                rcases hk with rfl | hk
                · exact HE0.out.le
                · exact (HE0.out.p.own.lt hk).1) (fun k hk => by
                rcases hk with rfl | hk
                · exact Or.inl rfl
                · exact .inr (.inr (.inr (.inr (.inl hk))))), fun k hk => Mem.x_own HMV.out hk, rfl⟩)
              clear HI HF HMV
              have HV := Lib.hid (HNX.out wd (by
                rw [HADD.out]
                obtain ⟨m9, a9, f9, -, -⟩ := HN.out
                exact ⟨⟨m9, a9, fun k hk => (a9.x_lt hk).1⟩, HJ6.out.b.trans f9.below⟩))
              go_wp2
              go_roundw
              case rel => exact ⟨j + 1, by omega, by go_num, HV.out⟩
              case measure => simp [intOf]; omega
            · have BA := (Below.refl wd.heap.size wd).alloc (Nat.le_refl _) (.cells #[.int .u32 (a : Int), .int .u8 (pn : Int), .int .u16 (s : Int)] 134)
              have hc2 := (HE.out.step BA).ec.c2
              go_simp
              refine hK.out _ _ (⟨hHeld.1.step BA, hc2⟩) (fun hHeld2 => ?_)
              clear hK K hHeld
              have hHeld := hHeld2
              clear hHeld2
              try simp only [Act.put, List.setIfInBounds_toArray, List.set_cons_zero, List.set_cons_succ]
              have hrow : (wd.alloc (.cells #[.int .u32 (a : Int), .int .u8 (pn : Int), .int .u16 (s : Int)] 134)).heap[wd.heap.size]? = some (.cells (Hm.cl ⟨a, pn, s⟩).toArray 134 (0, 0)) := heap_alloc_new wd (.cells #[.int .u32 (a : Int), .int .u8 (pn : Int), .int .u16 (s : Int)] 134)
              have HGS := Lib.hid (gsl_row (k := 3) hrow)
              have HE2 := Lib.hid (HE.out.step BA)
              clear BA HE hrow hc2
              generalize wd.alloc _ = wd3 at *
              generalize wd.heap.size = z at *
              generalize wd3 = wd at *
              have HE := HE2
              clear HE2
              refine wpAnyH_ready (rs := [4]) (by kernel_rfl) (by simp) ?_
              refine (AllReadyH.cons (o := ⟨some 46, .load 88 (.tmp 45), 88, "engine.go:58", #[⟨3, .data⟩], none⟩) rfl (fun K hK => ?_) AllReadyH.nil)
              have c1 := HE.out.ec.c1
              rw [HV.out] at c1
              have hql := HE.out.lt
              go_simp
              refine hK.out _ _ (hHeld) (fun hHeld2 => ?_)
              clear hK K hHeld
              have hHeld := hHeld2
              clear hHeld2
              try simp only [Act.put, List.setIfInBounds_toArray, List.set_cons_zero, List.set_cons_succ]
              clear c1 hql
              refine wpAnyH_ready (rs := [14]) (by kernel_rfl) (by simp) ?_
              refine (AllReadyH.cons (o := ⟨some 56, .call ⟨.builtin .append, #[.tmp 46, .tmp 55], #[88, 88]⟩, 88, "engine.go:58", #[⟨4, .data⟩, ⟨13, .data⟩, ⟨11, .chain⟩], none⟩) rfl (fun K hK => ?_) AllReadyH.nil)
              obtain ⟨v5, wd2, hrun, O5, G5, L5⟩ := hmapp wd w.heap.size (.slice A1 N1 c1) own [⟨a, pn, s⟩] (some ⟨z, 0, none⟩) 1 1 (by rw [← HV.out]; exact HE.out.p.own) rfl HGS.out (fun h => by cases h) (by have := HNB.out; omega) (by decide) HE.out.los
              rw [← HV.out] at G5 L5
              refine Lib.wp_append_run _ (.tmp 46) (.tmp 55) 88 88 rfl _ _ rfl rfl _ _ hrun ?_
              obtain ⟨A5, n5, c5, hv5⟩ : ∃ A5 n5 c5, v5 = .slice A5 n5 c5 := by
                obtain ⟨A5, c5, hv5, -⟩ := O5.form (fun _ => rfl)
                exact ⟨_, _, _, hv5⟩
              have F5 : Fr (fun j9 => m.vo.ownBlock = some j9) wd wd2 := Fr.grown G5 (fun j9 e => e)
              have HP5 := Lib.hid (HE.out.p.own' F5 O5)
              have HRW := Lib.hid (F5.row HE.out.row (HE.out.apart).2.2.2.1)
              have HMV := Lib.hid (show Moved w1 m.vo v5 from L5.imp_right fun h b e9 => by
                rw [h] at e9
                have e9 := Option.some.inj e9
                have := hHeld.1.size
                omega)
              have hHeld3 := hHeld.1.trans (Fr.grown (X := fun j9 => j9 = q ∨ m.vo.ownBlock = some j9) G5 (fun k e => Or.inr e))
              have hc2 : wd2.cell? ⟨q, 2, none⟩ = some (.pointer (some ⟨m.qs, 0, none⟩)) := cell_of_row wd2 q 2 _ 95 (0, 0) HRW.out
              subst hv5
              clear O5 G5 L5 F5 hrun HE
              refine hK.out _ _ (⟨hHeld3, hc2⟩) (fun hHeld2 => ?_)
              clear hK K hHeld
              have hHeld := hHeld2
              clear hHeld2
              try simp only [Act.put, List.setIfInBounds_toArray, List.set_cons_zero, List.set_cons_succ]
              clear hHeld3 hc2
              generalize wd2 = wd at *
              refine wpAnyH_take (i := 15) (oi := ⟨some 57, .nilCheck (.tmp 42), 0, "engine.go:58", #[⟨0, .data⟩, ⟨0, .phase⟩, ⟨1, .phase⟩, ⟨2, .phase⟩, ⟨3, .phase⟩, ⟨4, .phase⟩, ⟨5, .phase⟩, ⟨6, .phase⟩, ⟨7, .phase⟩, ⟨8, .phase⟩, ⟨9, .phase⟩, ⟨10, .phase⟩, ⟨11, .phase⟩, ⟨12, .phase⟩, ⟨13, .phase⟩, ⟨14, .phase⟩], none⟩) (v := .pointer (some ⟨q, 0, none⟩)) rfl (by kernel_rfl) (by kernel_rfl) (by kernel_rfl) (fun _ _ _ h => h) (Or.inl ⟨by rfl, fun w hSw => by go_simp⟩) (by assumption) ?_
              try simp only [Act.put, List.setIfInBounds_toArray, List.set_cons_zero, List.set_cons_succ]
              refine wpAnyH_take (i := 16) (oi := ⟨some 58, .fieldAddr 95 (.tmp 57) 1, 0, "engine.go:58", #[⟨15, .data⟩, ⟨0, .phase⟩, ⟨1, .phase⟩, ⟨2, .phase⟩, ⟨3, .phase⟩, ⟨4, .phase⟩, ⟨5, .phase⟩, ⟨6, .phase⟩, ⟨7, .phase⟩, ⟨8, .phase⟩, ⟨9, .phase⟩, ⟨10, .phase⟩, ⟨11, .phase⟩, ⟨12, .phase⟩, ⟨13, .phase⟩, ⟨14, .phase⟩], none⟩) (v := .pointer (some ⟨q, 1, none⟩)) rfl (by kernel_rfl) (by kernel_rfl) (by kernel_rfl) (fun _ _ _ h => h) (Or.inl ⟨by rfl, fun w hSw => by go_simp⟩) (by assumption) ?_
              try simp only [Act.put, List.setIfInBounds_toArray, List.set_cons_zero, List.set_cons_succ]
              refine wpAnyH_ready (rs := [17]) (by kernel_rfl) (by simp) ?_
              refine (AllReadyH.cons (o := ⟨none, .store 88 (.tmp 58) (.tmp 56), 0, "engine.go:58", #[⟨16, .data⟩, ⟨14, .data⟩, ⟨14, .chain⟩, ⟨0, .phase⟩, ⟨1, .phase⟩, ⟨2, .phase⟩, ⟨3, .phase⟩, ⟨4, .phase⟩, ⟨5, .phase⟩, ⟨6, .phase⟩, ⟨7, .phase⟩, ⟨8, .phase⟩, ⟨9, .phase⟩, ⟨10, .phase⟩, ⟨11, .phase⟩, ⟨12, .phase⟩, ⟨13, .phase⟩, ⟨14, .phase⟩], none⟩) rfl (fun K hK => ?_) AllReadyH.nil)
              have hc4 := cell_of_row wd q 1 _ 95 (0, 0) HRW.out
              have hf4 := frozen_of_row wd q 1 _ 95 HRW.out
              have hql := (Array.getElem?_eq_some_iff.1 HRW.out).1
              have hI := EngAt.put HRW.out HE0.out.le HP5.out 1 (.slice A5 n5 c5) rfl
              have hc2 : (wd.setCell ⟨q, 1, none⟩ (.slice A5 n5 c5)).cell? ⟨q, 2, none⟩ = some (.pointer (some ⟨m.qs, 0, none⟩)) := hI.ec.c2
              have HI := Lib.hid hI
              clear hI
              go_simp
              refine hK.out _ _ (⟨hHeld.1.trans (Fr.grown (grown_setCell wd q 1 _) (fun k e => Or.inl (Option.some.inj e).symm)), hc2⟩) (fun hHeld2 => ?_)
              clear hK K hHeld
              have hHeld := hHeld2
              clear hHeld2
              try simp only [Act.put, List.setIfInBounds_toArray, List.set_cons_zero, List.set_cons_succ]
              clear hc4 hf4 hql hc2 HP5 HRW
              generalize wd.setCell _ _ = wd9 at *
              generalize wd9 = wd at *
              refine wpAnyH_done (by kernel_rfl) ?_ _
              try unfold NoPanic
              have HF := Lib.hid hHeld.1
              clear hHeld
              have HN := Lib.hid (show ES w.heap.size w1 q m { Eng.base id f cf with own := own ++ [⟨a, pn, s⟩] } wd from ⟨_, HI.out, Ef.frm HF.out HE0.out.los (fun k hk => by
                rcases hk with rfl | hk
                · exact HE0.out.le
                · exact (HE0.out.p.own.lt hk).1) (fun k hk => by
                rcases hk with rfl | hk
                · exact Or.inl rfl
                · exact .inr (.inr (.inr (.inr (.inl hk))))), fun k hk => Mem.x_own HMV.out hk, rfl⟩)
              clear HI HF HMV
              have HV := Lib.hid (HNX.out wd (by
                rw [HADD.out]
                obtain ⟨m9, a9, f9, -, -⟩ := HN.out
                exact ⟨⟨m9, a9, fun k hk => (a9.x_lt hk).1⟩, HJ6.out.b.trans f9.below⟩))
              go_wp2
              go_roundw
              case rel => exact ⟨j + 1, by omega, by go_num, HV.out⟩
              case measure => simp [intOf]; omega
      · have HADD := Lib.hid (show addOwn f own (a, pn) = own by unfold addOwn; rw [if_neg (fun h9 => hr h9.1)])
        have hr' : Pre.right a pn = false := by simpa using hr
        rw [hr'] at HRT
        clear hr hr'
        go_wp2_with (go_at_call 73; (with_reducible refine (HRT.out _).mono ?_); rintro en w5 ⟨rfl, B5⟩; have HV := Lib.hid (HNX.out _ (by rw [HADD.out]; exact HJ.out.step B5)); clear B5)
        go_roundw
        case rel => exact ⟨j + 1, by omega, by go_num, HV.out⟩
        case measure => simp [intOf]; omega
    · obtain rfl : j = n := by omega
      have hE : (ps.take j).foldl (addOwn f) [] = ps.foldl (addOwn f) [] := by rw [HH.out.2.1, List.take_length]
      rw [hE] at HR
      go_wp2
      go_ret
      exact ⟨_, rfl, HR.out.1, base_ok HH.out.1 HH.out.2.2.2.2.2.1 HR.out.2.1 (by have := HR.out.2.2; omega)⟩
end Go.Proofs.YtjbogjbopgcbhaaGreatDoor.Eg
