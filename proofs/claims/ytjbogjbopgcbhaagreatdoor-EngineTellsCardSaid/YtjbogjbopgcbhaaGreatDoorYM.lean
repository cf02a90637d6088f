/- A law's router: what a call leaves, without where it stands; what Select chooses, by prefixes (pure). A law's router: the neighbors that it has met; what two tell of a prefix (pure). A law's router: its own prefix, what a neighbor says, and one that has met two. A law's router: the document's example; one that has met two. -/
import Derived.Test.YtjbogjbopgcbhaaGreatDoorYK
namespace Go.Proofs.YtjbogjbopgcbhaaGreatDoor.Eg
open Pre Ser Rts
open Go.Proofs.YtjbogjbopgcbhaaGreatDoor.Src (row1 row2 Mk SrcAt)
open Go.Proofs.YtjbogjbopgcbhaaGreatDoor.Lk (LkAt)
open Go.ChangeShapes Go.WideShapes Go.ChangeAt Go.RowKit
set_option maxRecDepth 8000
set_option linter.unusedVariables false
set_option linter.unusedSimpArgs false
open Go.Proofs.YtjbogjbopgcbhaaGreatDoor.Src (pv mv pA pN)
set_option linter.unusedSimpArgs false
abbrev Kept := List (Nat × Array Value × TypeId)
structure LW (w W : World) (q : Nat) (e : Eng) (K : Kept) : Prop where
  b : Below w.heap.size w W
  ex : ∃ m, EngAt w.heap.size W q e m ∧ ∀ k ∈ K, W.heap[k.1]? = some (.cells k.2.1 k.2.2 (0, 0)) ∧ k.2.2 ≠ 167 ∧ ¬ m.X q k.1
  ok : e.Ok
theorem LW.step {w W W' : World} {q : Nat} {e : Eng} {K : Kept} (h : LW w W q e K) (B : Below W.heap.size W W') : LW w W' q e K := by
  obtain ⟨m, hE, hK⟩ := h.ex
  exact ⟨h.b.trans (B.mono h.b.size), ⟨m, hE.step B, fun k hk => ⟨brow B (hK k hk).1, (hK k hk).2⟩⟩, h.ok⟩
theorem LW.sub {w W : World} {q : Nat} {e : Eng} {K K' : Kept} (h : LW w W q e K) (hk : ∀ k ∈ K', k ∈ K) : LW w W q e K' := by
  obtain ⟨m, hE, hK⟩ := h.ex
  exact ⟨h.b, ⟨m, hE, fun k h9 => hK k (hk k h9)⟩, h.ok⟩
theorem LW.add {w W : World} {q : Nat} {e : Eng} {K : Kept} (h : LW w W q e K) (x : Array Value) (t : TypeId) (ht : t ≠ 167 := by decide) : LW w (W.alloc (.cells x t)) q e ((W.heap.size, x, t) :: K) := by
  have B := (Below.refl W.heap.size W).alloc (Nat.le_refl _) (.cells x t)
  obtain ⟨m, hE, hK⟩ := (h.step B).ex
  obtain ⟨m0, hE0, hK0⟩ := h.ex
  refine ⟨h.b.trans (B.mono h.b.size), ⟨m0, hE0.step B, fun k hk => ?_⟩, h.ok⟩
  rcases List.mem_cons.1 hk with rfl | hk
  · exact ⟨heap_alloc_new W _, ht, fun hx => absurd (hE0.x_lt hx).2.1 (Nat.lt_irrefl _)⟩
  · exact ⟨brow B (hK0 k hk).1, (hK0 k hk).2⟩
theorem LW.to {w W W' : World} {q : Nat} {e' : Eng} {K : Kept} {m m' : Mem} (b : Below w.heap.size w W) (hK : ∀ k ∈ K, W.heap[k.1]? = some (.cells k.2.1 k.2.2 (0, 0)) ∧ k.2.2 ≠ 167 ∧ ¬ m.X q k.1) (hE : EngAt w.heap.size W' q e' m') (F : Ef w.heap.size (m.X q) W W') (X : ∀ k, m'.X q k → m.X q k ∨ W.heap.size ≤ k) (ok : e'.Ok) : LW w W' q e' K :=
  ⟨b.trans F.below, ⟨m', hE, fun k hk => by
    obtain ⟨h1, h2, h3⟩ := hK k hk
    refine ⟨F.cells _ _ _ _ h1 h2 h3, h2, fun hx => ?_⟩
    rcases X _ hx with h9 | h9
    · exact h3 h9
    · have := (Array.getElem?_eq_some_iff.1 h1).1; omega⟩, ok⟩
theorem LW.row {w W : World} {q : Nat} {e : Eng} {K : Kept} (h : LW w W q e K) {k : Nat} {x : Array Value} {t : TypeId} (hk : (k, x, t) ∈ K) : W.heap[k]? = some (.cells x t (0, 0)) := by
  obtain ⟨m, -, hK⟩ := h.ex
  exact (hK _ hk).1
theorem LW.set {w W : World} {q : Nat} {e : Eng} {K : Kept} {z : Nat} {x : Array Value} {t : TypeId} (h : LW w W q e ((z, x, t) :: K)) (hz : w.heap.size ≤ z) (hn : ∀ k ∈ K, k.1 ≠ z) (i : Nat) (v : Value) : LW w (W.setCell ⟨z, i, none⟩ v) q e ((z, x.setIfInBounds i v, t) :: K) := by
  obtain ⟨m, hE, hK⟩ := h.ex
  obtain ⟨h1, h2, h3⟩ := hK _ (List.mem_cons_self ..)
  have F : Fr (fun k => k = z) W (W.setCell ⟨z, i, none⟩ v) := Fr.grown (grown_setCell W z i v) (fun k e => (Option.some.inj e).symm)
  have h0 := hE.p.lo0
  refine ⟨h.b.grown (grown_setCell W z i v) h.b.size (fun k e => by have := Option.some.inj e; omega), ⟨m, hE.fr F (fun k hk e9 => h3 (e9 ▸ hk)) (fun b es cl hb e9 => by subst e9; rw [h1] at hb; cases hb) (by omega), fun k hk => ?_⟩, h.ok⟩
  rcases List.mem_cons.1 hk with rfl | hk
  · exact ⟨heap_setCell_same W z i _ t v h1, h2, h3⟩
  · obtain ⟨k1, k2, k3⟩ := hK k (List.mem_cons_of_mem _ hk)
    exact ⟨F.row k1 (hn k hk), k2, k3⟩
theorem LW.lt {w W : World} {q : Nat} {e : Eng} {K : Kept} (h : LW w W q e K) : q < W.heap.size := by
  obtain ⟨m, hE, -⟩ := h.ex
  exact hE.lt
theorem NewI.lw {w wr : World} {q : Nat} {e : Eng} (h : NewI w q e wr) (ok : e.Ok) : LW w wr q e [] := by
  obtain ⟨m, hE, -⟩ := h.ex
  exact ⟨h.b, ⟨m, hE, fun k hk => by cases hk⟩, ok⟩
theorem hear_lw {w W : World} {q : Nat} {e : Eng} {K : Kept} (h : LW w W q e K) (b st now : Nat) (A : Option Addr) (n c : Nat) (xs : List Pt) (hn : n = xs.length) (hs : GSl 7 Pt.cl W A xs) (hA : A = none ∨ ∃ z x, A = some ⟨z, 0, none⟩ ∧ (z, x, 32) ∈ K) (hxs : ∀ x ∈ xs, x.Ok) (hb : b < 16) (hbi : b ≠ e.id) (hst : st ≤ 1000) (hes : e.st ≤ 900000) (hnow : now ≤ 1000000) (hnl : e.nb.length ≤ 99) (hLl : e.L.length + xs.length ≤ 199) (hrq : ReqOK w.heap.size q b now xs) :
    Calls Tryz.prog 15 #[.pointer (some ⟨q, 0, none⟩), .agg #[.int .i64 (b : Int), .slice A n c], .int .i64 (st : Int), .int .u64 (now : Int)] W fun en w' => en = .returned (.tuple #[]) ∧ LW w w' q (e.hear b st now xs) K := by
  obtain ⟨m, hE, hK⟩ := h.ex
  refine (hear_any W _ q e m hE h.ok b st now A n c xs hn hs (fun b' o e9 => ?_) hxs hb hbi hst hes hnow hnl hLl hrq).mono ?_
  · rcases hA with h0 | ⟨z, x, h0, h1⟩
    · rw [h0] at e9; cases e9
    · rw [h0] at e9
      injection e9 with e9
      injection e9 with e1
      subst e1
      obtain ⟨k1, k2, k3⟩ := hK _ h1
      exact ⟨k3, _, _, k2, k1⟩
  rintro en w' ⟨rfl, ⟨m', hE', F, X⟩, ok'⟩
  exact ⟨rfl, LW.to h.b hK hE' F X ok'⟩
def Sel (e e' : Eng) (ts : List Ro) : Prop := ∃ rs bs, SelOK e.cf e.f e.L rs ∧ rs.length ≤ e.L.length ∧ ts.Perm (e.ways rs) ∧ GUp Ro.pk ts ∧ BlkOK (e.lows (e.ways rs)).f e.L bs ∧ e' = ((e.lows (e.ways rs)).choose ts).askAll bs
theorem select_lw {w W : World} {q : Nat} {e : Eng} {K : Kept} (h : LW w W q e K) (hsk : e.SelOk) :
    Calls Tryz.prog 17 #[.pointer (some ⟨q, 0, none⟩)] W fun en w' => ∃ v' e' ts, en = .returned v' ∧ Sel e e' ts ∧ LW w w' q e' K ∧ GOwn 40 5 Ro.cl w' W.heap.size v' ts ∧ (∀ g cur, v'.ownBlock = some g → w'.heap[g]? = some (.cells cur 40 (0, 0)) → LW w w' q e' ((g, cur, 40) :: K)) := by
  obtain ⟨m, hE, hK⟩ := h.ex
  refine (select_eng W _ q e m hE h.ok hsk).mono ?_
  rintro en w' ⟨v', rs, ts, bs, rfl, h1, h1l, h2, h3, h4, ⟨m', hE', F, X, -, hv⟩, ok', hO⟩
  have hL := LW.to h.b hK hE' F X ok'
  refine ⟨v', _, ts, rfl, ⟨rs, bs, h1, h1l, h2, h3, h4, rfl⟩, hL, hO, fun g cur e9 hg => ⟨hL.b, ⟨m', hE', fun k hk => ?_⟩, ok'⟩⟩
  rcases List.mem_cons.1 hk with rfl | hk
  · exact ⟨hg, show (40 : TypeId) ≠ 167 by decide, hv _ e9⟩
  · obtain ⟨k1, k2, k3⟩ := hK k hk
    refine ⟨F.cells _ _ _ _ k1 k2 k3, k2, fun hx => ?_⟩
    rcases X _ hx with h9 | h9
    · exact k3 h9
    · have := (Array.getElem?_eq_some_iff.1 k1).1; omega
def look (ch : List Ro) (a n : Nat) : Option Ro := ch.find? fun r => r.pk == a * 256 + n
theorem look_mem {ch : List Ro} {a n : Nat} {r : Ro} (h : look ch a n = some r) : r ∈ ch ∧ r.pk = a * 256 + n := ⟨List.mem_of_find?_eq_some h, by have := List.find?_some h; simpa using this⟩
theorem look_eq {ch : List Ro} (hne : ch.Pairwise fun x y => x.pk ≠ y.pk) {r : Ro} (hr : r ∈ ch) {a n : Nat} (hk : r.pk = a * 256 + n) : look ch a n = some r := by
  induction ch with
  | nil => cases hr
  | cons x l ih =>
    rw [List.pairwise_cons] at hne
    unfold look
    rw [List.find?_cons]
    rcases List.mem_cons.1 hr with rfl | hr
    · rw [show (r.pk == a * 256 + n) = true by simpa using hk]
    · have h1 := hne.1 r hr
      rw [show (x.pk == a * 256 + n) = false by rw [← hk]; simpa using h1]
      exact ih hne.2 hr
theorem look_no {ch : List Ro} {a n : Nat} (h : ∀ r ∈ ch, r.pk ≠ a * 256 + n) : look ch a n = none := List.find?_eq_none.2 fun r hr => by simpa using h r hr
theorem look_none {ch : List Ro} {a n : Nat} (h : look ch a n = none) : ∀ r ∈ ch, r.pk ≠ a * 256 + n := fun r hr => by
  have := List.find?_eq_none.1 h r hr
  simpa using this
theorem GUp.ne {ch : List Ro} (h : GUp Ro.pk ch) : ch.Pairwise fun x y => x.pk ≠ y.pk := h.imp fun h => Nat.ne_of_lt h
theorem look_perm {ts ws : List Ro} (hp : ts.Perm ws) (hne : ws.Pairwise fun x y => x.pk ≠ y.pk) (a n : Nat) : look ts a n = look ws a n := by
  have hne2 : ts.Pairwise fun x y => x.pk ≠ y.pk := (hp.pairwise_iff (fun {x y} h e9 => h e9.symm)).2 hne
  cases h : look ws a n with
  | none => exact look_no fun r hr => look_none h r (hp.mem_iff.1 hr)
  | some r => exact look_eq hne2 (hp.mem_iff.2 (look_mem h).1) (look_mem h).2
def lookV (o : Option Ro) : Value := match o with
  | none => .tuple #[.agg #[.int .u32 0, .int .u8 0, .int .i64 0, .int .u16 0, .int .u16 0], .bool false]
  | some r => .tuple #[.agg #[.int .u32 (r.a : Int), .int .u8 (r.n : Int), .int .i64 (r.v : Int), .int .u16 (r.m : Int), .int .u16 (r.s : Int)], .bool true]
theorem selP_an {cf : Nat → Nat} {f : Mk} {L : List E} {a n : Nat} {r : Ro} (h : selP cf f L a n = some r) : r.a = a ∧ r.n = n := by
  unfold selP at h
  split at h
  · rename_i hc
    injection h with h
    subst h
    unfold short at hc ⊢
    exact fold_of cf f a n _ _ (fun e he => by simpa [ofp] using (List.mem_filter.1 he).2) (fun h9 => absurd h9 (Nat.lt_irrefl _)) (Nat.le_refl _) hc
  · cases h
theorem pk_inj {a n b k : Nat} (h1 : n < 256) (h2 : k < 256) (h : a * 256 + n = b * 256 + k) : a = b ∧ n = k := by omega
theorem look_ways {e : Eng} (hok : e.Ok) (hsk : e.SelOk) {rs : List Ro} (S : SelOK e.cf e.f e.L rs) {a n : Nat} (hn : n < 256) (hno : e.isOwn a n = false) : look (e.ways rs) a n = selP e.cf e.f e.L a n := by
  have hne := hsk.ne hok S
  cases hs : selP e.cf e.f e.L a n with
  | none =>
    refine look_no fun r hr e9 => ?_
    rcases List.mem_append.1 hr with hr | hr
    · obtain ⟨g, hg, rfl⟩ := List.mem_map.1 hr
      obtain ⟨h1, h2⟩ := pk_inj (hok.owo g hg).2.2.1 hn e9
      have h3 := List.any_eq_false.1 hno g hg
      simp [Hm.is] at h3
      exact h3 h1 h2
    · have h1 := (S.mem r).1 hr
      obtain ⟨x, hx, rfl, -, -⟩ := sel_mem S hr
      obtain ⟨h2, h3⟩ := pk_inj (hok.lok x hx).n hn e9
      have h1 : selP e.cf e.f e.L x.a x.n = some (wayOf e.cf x) := h1
      have h2 : x.a = a := h2
      have h3 : x.n = n := h3
      rw [h2, h3, hs] at h1
      cases h1
  | some r =>
    obtain ⟨h1, h2⟩ := selP_an hs
    have h3 : r ∈ rs := (S.mem r).2 (by rw [h1, h2]; exact hs)
    exact look_eq hne (List.mem_append_right _ h3) (by unfold Ro.pk; rw [h1, h2])
theorem look_own {e : Eng} (hok : e.Ok) (hsk : e.SelOk) {rs : List Ro} (S : SelOK e.cf e.f e.L rs) {g : Hm} (hg : g ∈ e.own) : look (e.ways rs) g.a g.n = some (ownRo e.id g) :=
  look_eq (hsk.ne hok S) (List.mem_append_left _ (List.mem_map.2 ⟨g, hg, rfl⟩)) rfl
theorem lows_f : ∀ (ws : List Ro) (e : Eng), (∀ r ∈ ws, r.n < 256) → (ws.Pairwise fun x y => x.pk ≠ y.pk) → ∀ a n, n < 256 → (e.lows ws).f a n = match look ws a n with
    | some r => some (e.f.best a n (r.s, r.m))
    | none => e.f a n
  | [], e, _, _, a, n, _ => rfl
  | r :: ws, e, hn, hne, a, n, hl => by
    rw [List.pairwise_cons] at hne
    have ih := lows_f ws (e.low1 r) (fun x hx => hn x (List.mem_cons_of_mem _ hx)) hne.2 a n hl
    have h1 : e.lows (r :: ws) = (e.low1 r).lows ws := rfl
    rw [h1, ih]
    have hf : (e.low1 r).f = e.f.put r.a r.n (e.f.best r.a r.n (r.s, r.m)) := rfl
    by_cases hk : r.pk = a * 256 + n
    · obtain ⟨ha, hb⟩ := pk_inj (hn r (List.mem_cons_self ..)) hl hk
      have h2 : look ws a n = none := look_no fun x hx e9 => hne.1 x hx (hk.trans e9.symm)
      have h3 : look (r :: ws) a n = some r := by
        unfold look; rw [List.find?_cons, show (r.pk == a * 256 + n) = true by simpa using hk]
      rw [h2, h3, hf]
      subst ha hb
      simp [Mk.put]
    · have h3 : look (r :: ws) a n = look ws a n := by
        unfold look; rw [List.find?_cons, show (r.pk == a * 256 + n) = false by simpa using hk]
      have h4 : (e.low1 r).f a n = e.f a n := by
        rw [hf]; unfold Mk.put
        rw [if_neg]
        rintro ⟨rfl, rfl⟩
        exact hk rfl
      rw [h3, h4]
      cases look ws a n with
      | none => rfl
      | some x => simp only [Mk.best, h4]
theorem lose_same (e : Eng) (a n : Nat) : e.lose a n = { e with lost := (e.lose a n).lost } := by unfold Eng.lose; split <;> rfl
theorem miss_same (e : Eng) (r : Ro) : e.miss r = { e with lost := (e.miss r).lost } := by
  unfold Eng.miss; split
  · rfl
  · exact lose_same e r.a r.n
theorem missAll_same : ∀ (l : List Ro) (e : Eng), l.foldl Eng.miss e = { e with lost := (l.foldl Eng.miss e).lost }
  | [], e => rfl
  | r :: l, e => by
    have h1 := missAll_same l (e.miss r)
    have h2 := miss_same e r
    rw [List.foldl_cons]
    generalize l.foldl Eng.miss (e.miss r) = z at *
    rw [h1, h2]
theorem choose_same' (e : Eng) (ws : List Ro) : e.choose ws = { e with ch := ws, lost := (e.choose ws).lost, due := (e.choose ws).due } := by
  unfold Eng.choose; split
  · rename_i h; rw [← h]
  · have h1 := missAll_same e.ch { e with ch := ws, due := true }
    generalize e.ch.foldl Eng.miss _ = z at *
    rw [h1]
theorem ask_same' (e : Eng) (a n s k : Nat) : e.ask a n s k = { e with rq := (e.ask a n s k).rq } := by unfold Eng.ask; split <;> rfl
theorem askAll_same : ∀ (bs : List (Nat × Nat)) (e : Eng), e.askAll bs = { e with rq := (e.askAll bs).rq }
  | [], e => rfl
  | b :: bs, e => by
    have h1 := askAll_same bs (e.askB b)
    have h2 : e.askB b = { e with rq := (e.askB b).rq } := by
      unfold Eng.askB; split
      · exact ask_same' ..
      · rfl
    have h3 : e.askAll (b :: bs) = (e.askB b).askAll bs := rfl
    rw [h3]
    generalize (e.askB b).askAll bs = z at *
    rw [h1, h2]
theorem choose_lost (e : Eng) (ws : List Ro) : (e.choose ws).lost.length ≤ e.lost.length + e.ch.length := by
  have h1 : ∀ (e : Eng) (a n : Nat), (e.lose a n).lost.length ≤ e.lost.length + 1 := fun e a n => by
    unfold Eng.lose; split
    · exact Nat.le_succ _
    · show (_ ++ _ :: _).length ≤ _
      rw [List.length_append, List.length_cons, List.length_take, List.length_drop]; omega
  have h2 : ∀ (l : List Ro) (e : Eng), (l.foldl Eng.miss e).lost.length ≤ e.lost.length + l.length := fun l => by
    induction l with
    | nil => exact fun e => Nat.le_refl _
    | cons r l ih =>
      intro e
      have h3 := ih (e.miss r)
      have h4 : (e.miss r).lost.length ≤ e.lost.length + 1 := by
        unfold Eng.miss; split
        · exact Nat.le_succ _
        · exact h1 e r.a r.n
      rw [List.foldl_cons, List.length_cons]; omega
  unfold Eng.choose; split
  · exact Nat.le_add_right _ _
  · exact h2 e.ch _
structure Chose (e e' : Eng) : Prop where
  keep : e' = { e with f := e'.f, c := e'.c, ch := e'.ch, lost := e'.lost, due := e'.due, rq := e'.rq }
  own : ∀ g ∈ e.own, look e'.ch g.a g.n = some (ownRo e.id g)
  other : ∀ a n, n < 256 → e.isOwn a n = false → look e'.ch a n = selP e.cf e.f e.L a n
  mark : ∀ a n, n < 256 → e'.f a n = match look e'.ch a n with
    | some r => some (e.f.best a n (r.s, r.m))
    | none => e.f a n
  len : e'.ch.length ≤ e.own.length + e.L.length
  c : e'.c ≤ e.c + e.own.length + e.L.length
  lost : e'.lost.length ≤ e.lost.length + e.ch.length
theorem Sel.chose {e e' : Eng} {ts : List Ro} (h : Sel e e' ts) (hok : e.Ok) (hsk : e.SelOk) : Chose e e' ∧ e'.ch = ts := by
  obtain ⟨rs, bs, S, hl, hp, hu, -, rfl⟩ := h
  have hch := (askAll_ch bs ((e.lows (e.ways rs)).choose ts)).trans (choose_keeps (e.lows (e.ways rs)) ts).1
  have hne := hsk.ne hok S
  have hwl := hsk.sel_len hl
  have hsame : (((e.lows (e.ways rs)).choose ts).askAll bs).f = (e.lows (e.ways rs)).f ∧ (((e.lows (e.ways rs)).choose ts).askAll bs).c = (e.lows (e.ways rs)).c := by
    rw [askAll_same, choose_same']
    exact ⟨rfl, rfl⟩
  refine ⟨⟨?_, fun g hg => ?_, fun a n hn hno => ?_, fun a n hn => ?_, ?_, ?_, ?_⟩, hch⟩
  · have h1 := askAll_same bs ((e.lows (e.ways rs)).choose ts)
    have h2 := choose_same' (e.lows (e.ways rs)) ts
    have h3 := lows_same (e.ways rs) e
    generalize ((e.lows (e.ways rs)).choose ts).askAll bs = z at *
    generalize (e.lows (e.ways rs)).choose ts = y at *
    generalize e.lows (e.ways rs) = x at *
    rw [h1, h2, h3]
  · rw [hch, look_perm hp hne]; exact look_own hok hsk S hg
  · rw [hch, look_perm hp hne]; exact look_ways hok hsk S hn hno
  · rw [hch, look_perm hp hne, hsame.1]
    exact lows_f (e.ways rs) e (fun r hr => (hsk.row hok S r hr).1.2.1) hne a n hn
  · rw [hch, hp.length_eq]; exact hwl
  · rw [hsame.2]
    have := lows_c (e.ways rs) e
    omega
  · have h1 : (((e.lows (e.ways rs)).choose ts).askAll bs).lost = ((e.lows (e.ways rs)).choose ts).lost := by rw [askAll_same]
    rw [h1]
    have := choose_lost (e.lows (e.ways rs)) ts
    rw [lows_same] at this ⊢
    exact this
end Go.Proofs.YtjbogjbopgcbhaaGreatDoor.Eg
namespace Go.Proofs.YtjbogjbopgcbhaaGreatDoor.Eg
open Pre Ser Rts
open Go.Proofs.YtjbogjbopgcbhaaGreatDoor.Src (row1 row2 Mk SrcAt)
open Go.Proofs.YtjbogjbopgcbhaaGreatDoor.Lk (LkAt)
open Go.ChangeShapes Go.WideShapes Go.ChangeAt Go.RowKit
set_option maxRecDepth 8000
set_option linter.unusedVariables false
set_option linter.unusedSimpArgs false
open Go.Proofs.YtjbogjbopgcbhaaGreatDoor.Src (pv mv pA pN)
set_option linter.unusedSimpArgs false
def oH : Hm := ⟨201326592, 24, 1⟩
def lk (c : Nat) : Lk.L := ⟨3, 1, 7, max c 1, 21⟩
def hel (n c : Nat) : List Pt := [⟨1, n, 0, 0, 0, 0, 0⟩, ⟨2, 0, 0, 0, 0, 0, c⟩]
def uP (a n s m : Nat) : Pt := ⟨3, 0, 3, a, n, s, m⟩
def Eng.m0 (a b : Nat) : Eng := ⟨0, [oH], f0, 0, [], [(1, lk a), (2, lk b)], [], 0, 0, 0, 0, 0, true, [], []⟩
def Eng.b0 : Eng := ⟨0, [oH], f0, 0, [], [], [], 0, 0, 0, 0, 0, true, [], []⟩
theorem right_own : Pre.right 201326592 24 = true := by decide +kernel
theorem new_b0 : Eng.new 0 [(201326592, 24)] f0 0 = Eng.b0 := by
  have h : addOwn f0 [] (201326592, 24) = [oH] := by
    unfold addOwn
    rw [if_pos ⟨right_own, rfl⟩]; rfl
  show ({ Eng.base 0 f0 0 with own := addOwn f0 [] (201326592, 24) } : Eng) = _
  rw [h]; rfl
theorem hel1 (c : Nat) : ((Lk.L.new 1).hello 0 1).heard c 1 = ⟨1, 0, 7, max c 1, 21⟩ := by
  show (⟨Lk.sh 0 ((Lk.L.new 1).steps 0) + 1, 0, 7, max c 1, 21⟩ : Lk.L) = _
  have : Lk.sh 0 ((Lk.L.new 1).steps 0) = 0 := by unfold Lk.sh; simp
  rw [this]
theorem hel2 (c : Nat) : ((⟨1, 0, 7, max c 1, 21⟩ : Lk.L).hello 1 1).heard c 1 = lk c := by
  show (⟨Lk.sh 1 ((⟨1, 0, 7, max c 1, 21⟩ : Lk.L).steps 1) + 1, 1, 7, max c 1, 21⟩ : Lk.L) = _
  have : Lk.sh 1 ((⟨1, 0, 7, max c 1, 21⟩ : Lk.L).steps 1) = 2 := by
    have h0 : Lk.tz 1 = 0 := by decide +kernel
    have h1 : (⟨1, 0, 7, max c 1, 21⟩ : Lk.L).steps 1 = 1 := by
      unfold Lk.L.steps
      rw [show Lk.tz (⟨1, 0, 7, max c 1, 21⟩ : Lk.L).c = 0 from h0]
      exact if_neg (show ¬ (1 < 0 ∨ 1 - 0 ≤ 0) by decide)
    rw [h1]; decide
  rw [this]; rfl
def Eng.b1 (l : List (Nat × Lk.L)) : Eng := { Eng.b0 with nb := l }
theorem hear_hel {l : List (Nat × Lk.L)} {b n c : Nat} (hb : b ≠ 0) : (Eng.b1 l).hear b 0 1 (hel n c) = ((Eng.b1 l).meet b 1).link b fun x => (x.hello n 1).heard c 1 := by
  unfold Eng.hear
  rw [if_neg (show b ≠ (Eng.b1 l).id from hb)]
  have h0 : ({ Eng.b1 l with st := (Eng.b1 l).st + 0 } : Eng) = Eng.b1 l := rfl
  rw [h0]
  have h1 : ((Eng.b1 l).meet b 1).id = 0 := by unfold Eng.meet; split <;> rfl
  generalize (Eng.b1 l).meet b 1 = z at *
  unfold hel
  rw [List.foldl_cons, List.foldl_cons, List.foldl_nil]
  have h2 : Eng.part b 1 z ⟨1, n, 0, 0, 0, 0, 0⟩ = z.link b fun x => x.hello n 1 := rfl
  rw [h2]
  have h3 : Eng.part b 1 (z.link b fun x => x.hello n 1) ⟨2, 0, 0, 0, 0, 0, c⟩ = (z.link b fun x => x.hello n 1).link b fun x => x.heard c 1 := by
    unfold Eng.part
    rw [if_neg (show ¬ (2 = 1) by decide), if_pos rfl, if_pos (show 0 = (z.link b _).id from h1.symm)]
  rw [h3]
  unfold Eng.link
  simp only [List.map_map]
  congr 1
  refine List.map_congr_left fun y _ => ?_
  simp only [Function.comp]
  by_cases hy : y.1 = b
  · simp [hy]
  · simp [hy]
theorem met1 (a : Nat) : Eng.b0.hear 1 0 1 (hel 0 a) = Eng.b1 [(1, ⟨1, 0, 7, max a 1, 21⟩)] := by
  have h := hear_hel (l := []) (b := 1) (n := 0) (c := a) (by decide)
  have h1 : (Eng.b1 []).meet 1 1 = Eng.b1 [(1, Lk.L.new 1)] := rfl
  rw [h1] at h
  refine Eq.trans h ?_
  show Eng.b1 [(1, ((Lk.L.new 1).hello 0 1).heard a 1)] = _
  rw [hel1]
theorem met2 (a b : Nat) : (Eng.b1 [(1, ⟨1, 0, 7, max a 1, 21⟩)]).hear 2 0 1 (hel 0 b) = Eng.b1 [(1, ⟨1, 0, 7, max a 1, 21⟩), (2, ⟨1, 0, 7, max b 1, 21⟩)] := by
  rw [hear_hel (by decide)]
  show Eng.b1 [(1, ⟨1, 0, 7, max a 1, 21⟩), (2, ((Lk.L.new 1).hello 0 1).heard b 1)] = _
  rw [hel1]
theorem met3 (a b : Nat) : (Eng.b1 [(1, ⟨1, 0, 7, max a 1, 21⟩), (2, ⟨1, 0, 7, max b 1, 21⟩)]).hear 1 0 1 (hel 1 a) = Eng.b1 [(1, lk a), (2, ⟨1, 0, 7, max b 1, 21⟩)] := by
  rw [hear_hel (by decide)]
  show Eng.b1 [(1, ((⟨1, 0, 7, max a 1, 21⟩ : Lk.L).hello 1 1).heard a 1), (2, ⟨1, 0, 7, max b 1, 21⟩)] = _
  rw [hel2]
theorem met4 (a b : Nat) : (Eng.b1 [(1, lk a), (2, ⟨1, 0, 7, max b 1, 21⟩)]).hear 2 0 1 (hel 1 b) = Eng.m0 a b := by
  rw [hear_hel (by decide)]
  show Eng.b1 [(1, lk a), (2, ((⟨1, 0, 7, max b 1, 21⟩ : Lk.L).hello 1 1).heard b 1)] = _
  rw [hel2]; rfl
structure Met (a b : Nat) (e : Eng) : Prop where
  id : e.id = 0
  own : e.own = [oH]
  nb : e.nb = [(1, lk a), (2, lk b)]
  st : e.st ≤ 1000
  fu : e.fu = 0
  nr : e.nr = 0
theorem m0_met (a b : Nat) : Met a b (Eng.m0 a b) := ⟨rfl, rfl, rfl, Nat.zero_le 1000, rfl, rfl⟩
theorem Met.up {a b : Nat} {e : Eng} (h : Met a b e) (L : List E) : Met a b { e with L := L } := ⟨h.id, h.own, h.nb, h.st, h.fu, h.nr⟩
theorem Met.sel {a b : Nat} {e e' : Eng} (h : Met a b e) (hc : Chose e e') : Met a b e' := by
  rw [hc.keep]
  exact ⟨h.id, h.own, h.nb, h.st, h.fu, h.nr⟩
theorem lk_cost (c : Nat) : (lk c).cost = max c 1 := if_pos (show Lk.recv 3 = 96 by decide)
theorem Met.cf1 {a b : Nat} {e : Eng} (h : Met a b e) : e.cf 1 = max a 1 := by
  unfold Eng.cf Eng.cost
  rw [h.nb]; exact (if_pos (by decide)).trans (lk_cost a)
theorem Met.isOwn {a b : Nat} {e : Eng} (h : Met a b e) (x n : Nat) : e.isOwn x n = (201326592 == x && 24 == n) := by
  unfold Eng.isOwn
  rw [h.own]
  simp [Hm.is, oH]
theorem p_ne (p : Nat) : ¬ (pA p = 201326592 ∧ pN p = 24) := by
  rintro ⟨h1, -⟩
  have h2 : pA p ≤ 167772160 + p % 3 * 65536 + p / 3 % 2 * 32768 := Pre.top_le _ _
  omega
theorem Met.p_own {a b : Nat} {e : Eng} (h : Met a b e) (p : Nat) : e.isOwn (pA p) (pN p) = false := by
  rw [h.isOwn]
  have := p_ne p
  by_cases h1 : 201326592 = pA p
  · by_cases h2 : 24 = pN p
    · exact absurd ⟨h1.symm, h2.symm⟩ this
    · simp [h2]
  · simp [h1]
theorem hear_upd {a b : Nat} {e : Eng} (h : Met a b e) {k now : Nat} {x : Pt} (hk : k = 1 ∨ k = 2) (hx : x.k = 3) : e.hear k 0 now [x] = e.upd k now x := by
  unfold Eng.hear
  rw [if_neg (by rw [h.id]; omega)]
  have h0 : ({ e with st := e.st + 0 } : Eng) = e := rfl
  rw [h0]
  have h1 : e.meet k now = e := by
    unfold Eng.meet
    rw [if_pos (by rw [h.nb]; rcases hk with rfl | rfl <;> rfl)]
  rw [h1, List.foldl_cons, List.foldl_nil]
  unfold Eng.part
  rw [if_neg (by omega), if_neg (by omega), if_pos hx]
theorem uP_ok {p s m : Nat} (hs : s < 65536) (hm : m ≤ 65535) : (uP (pA p) (pN p) s m).Ok := ⟨by show 3 < 256; decide, by show 0 < _; decide, by show 3 < 16; decide, Src.pA_lt p, by have := Src.pN_le p; show pN p < 256; omega, Src.p_right p, hs, hm⟩
def Sz (e : Eng) (x y z : Nat) : Prop := e.c ≤ x ∧ e.lost.length ≤ y ∧ e.ch.length ≤ z
theorem Sz.sel {e e' : Eng} {x y z : Nat} (h : Sz e x y z) (hc : Chose e e') {o l : Nat} (ho : e.own.length ≤ o) (hl : e.L.length ≤ l) : Sz e' (x + o + l) (y + z) (o + l) := by
  have h1 := hc.c; have h2 := hc.lost; have h3 := hc.len
  obtain ⟨k1, k2, k3⟩ := h
  exact ⟨by omega, by omega, by omega⟩
theorem Met.sok {a b : Nat} {e : Eng} (h : Met a b e) (hL : ∀ x ∈ e.L, Pre.right x.a x.n = true ∧ ∃ p, x.a = pA p ∧ x.n = pN p) {x y z : Nat} (hz : Sz e x y z) (h1 : x + 1 + e.L.length ≤ 230) (h2 : y + z ≤ 800) : e.SelOk := by
  obtain ⟨k1, k2, k3⟩ := hz
  refine ⟨fun x hx => (hL x hx).1, fun g hg x hx => ?_, ?_, ?_, by omega⟩
  · rw [h.own, List.mem_singleton] at hg
    subst hg
    obtain ⟨p, e1, e2⟩ := (hL x hx).2
    rw [e1, e2]
    rintro ⟨h3, h4⟩
    exact p_ne p ⟨h3.symm, h4.symm⟩
  · rw [h.own]; exact List.pairwise_singleton _ _
  · rw [h.own]; show e.c + 1 + e.L.length ≤ 230; omega
theorem Met.own_look {a b : Nat} {e e' : Eng} (h : Met a b e) (hc : Chose e e') : look e'.ch 201326592 24 = some ⟨201326592, 24, 0, 0, 1⟩ := by
  have := hc.own oH (by rw [h.own]; exact List.mem_singleton_self _)
  rw [h.id] at this
  exact this
def one (a n b s m now : Nat) : List E := if m = 65535 then [] else [⟨a, n, b, 3, s, m, now + 50⟩]
theorem tell_one (a n s x now : Nat) (b : Nat) : tellL [] b now (uP a n s x) = one a n b s x now := by
  unfold tellL one uP
  by_cases h : x = 65535
  · simp [h]
  · simp [h, putE, pos, there]
theorem one_filter (a n b s m now : Nat) : (one a n b s m now).filter (ofp a n) = one a n b s m now := by
  refine List.filter_eq_self.2 fun e he => ?_
  unfold one at he
  split at he
  · cases he
  · rw [List.mem_singleton] at he; subst he; simp [ofp]
theorem selP_one {cf : Nat → Nat} {f : Mk} {a n b s m now : Nat} (hm : m ≤ 65535) : selP cf f (one a n b s m now) a n = if m + cf b < 65535 ∧ (m = 65535 ∨ f.feas a n (s, m) = true) then some ⟨a, n, b, m + cf b, s⟩ else none := by
  unfold selP
  rw [one_filter]
  by_cases h : m = 65535
  · have h0 : one a n b s m now = [] := if_pos h
    rw [h0]
    have h1 : short cf f [] = (65535, Ro.zero) := rfl
    rw [h1, if_neg (show ¬ (65535, Ro.zero).1 < 65535 from Nat.lt_irrefl _)]
    exact (if_neg (by omega)).symm
  · have h0 : one a n b s m now = [⟨a, n, b, 3, s, m, now + 50⟩] := if_neg h
    rw [h0]
    have e1 : short cf f [⟨a, n, b, 3, s, m, now + 50⟩] = if m + cf b < 65535 ∧ f.feas a n (s, m) = true then (m + cf b, ⟨a, n, b, m + cf b, s⟩) else (65535, Ro.zero) := rfl
    rw [e1]
    by_cases hc : m + cf b < 65535 ∧ f.feas a n (s, m) = true
    · rw [if_pos hc]
      have hd : m + cf b < 65535 ∧ (m = 65535 ∨ f.feas a n (s, m) = true) := ⟨hc.1, Or.inr hc.2⟩
      rw [if_pos hd]
      exact if_pos hc.1
    · rw [if_neg hc]
      have hd : ¬ (m + cf b < 65535 ∧ (m = 65535 ∨ f.feas a n (s, m) = true)) := fun h9 => hc ⟨h9.1, h9.2.resolve_left h⟩
      rw [if_neg hd]
      exact if_neg (Nat.lt_irrefl _)
end Go.Proofs.YtjbogjbopgcbhaaGreatDoor.Eg
namespace Go.Proofs.YtjbogjbopgcbhaaGreatDoor.Eg
open Pre Ser Rts
open Go.Proofs.YtjbogjbopgcbhaaGreatDoor.Src (row1 row2 Mk SrcAt)
open Go.Proofs.YtjbogjbopgcbhaaGreatDoor.Lk (LkAt)
open Go.ChangeShapes Go.WideShapes Go.ChangeAt Go.RowKit
set_option maxRecDepth 8000
set_option linter.unusedVariables false
set_option linter.unusedSimpArgs false
open Go.Proofs.YtjbogjbopgcbhaaGreatDoor.Src (pv mv pA pN)
set_option linter.unusedSimpArgs false
theorem own_any (w : World) : Calls Tryz.prog 25 #[] w fun en w' => en = .returned (.slice (some ⟨w.heap.size, 0, none⟩) 1 1) ∧ w' = w.alloc (.cells #[.int .u32 201326592, .int .u8 24] 30) := by
  go_enter Tryz.func25, Tryz.ntmps25
  go_wp2
  go_ret
  exact ⟨rfl, rfl⟩
theorem own_call (w : World) : Calls Tryz.prog 25 #[] w fun en w' => ∃ z, en = .returned (.slice (some ⟨z, 0, none⟩) 1 1) ∧ GSl 2 clP w' (some ⟨z, 0, none⟩) [(201326592, 24)] ∧ w'.heap[z]? = some (.cells #[.int .u32 201326592, .int .u8 24] 30 (0, 0)) ∧ Below w.heap.size w w' := by
  refine (own_any w).mono ?_
  rintro en w' ⟨rfl, rfl⟩
  exact ⟨_, rfl, gsl_row (cl := clP) (x := ((201326592, 24) : Nat × Nat)) (heap_alloc_new w (.cells #[.int .u32 201326592, .int .u8 24] 30)), heap_alloc_new w _, (Below.refl w.heap.size w).alloc (Nat.le_refl _) _⟩
theorem set7 {w : World} {b : Nat} {t : TypeId} {x0 x1 x2 x3 x4 x5 x6 : Value} (h : w.heap[b]? = some (.cells #[x0, x1, x2, x3, x4, x5, x6] t (0, 0))) (y0 y1 y2 y3 y4 y5 y6 : Value) : (((((((w.setCell ⟨b, 0, none⟩ y0).setCell ⟨b, 1, none⟩ y1).setCell ⟨b, 2, none⟩ y2).setCell ⟨b, 3, none⟩ y3).setCell ⟨b, 4, none⟩ y4).setCell ⟨b, 5, none⟩ y5).setCell ⟨b, 6, none⟩ y6).heap[b]? = some (.cells #[y0, y1, y2, y3, y4, y5, y6] t (0, 0)) := by
  have h6 := heap_setCell_same _ b 6 _ t y6 (heap_setCell_same _ b 5 _ t y5 (heap_setCell_same _ b 4 _ t y4 (heap_setCell_same _ b 3 _ t y3 (heap_setCell_same _ b 2 _ t y2 (heap_setCell_same _ b 1 _ t y1 (heap_setCell_same w b 0 _ t y0 h))))))
  simpa using h6
theorem grown2 (w : World) (b : Nat) (y0 y1 : Value) : w.grownBy ((w.setCell ⟨b, 0, none⟩ y0).setCell ⟨b, 1, none⟩ y1) (some b) := (grown_setCell w b 0 y0).trans (grown_setCell _ b 1 y1)
theorem info36c : (Tryz.prog.info? 36).map (·.size) = some 2 := by kernel_rfl
theorem info32c : (Tryz.prog.info? 32).map (·.size) = some 7 := by kernel_rfl
theorem up_any (w : World) (p s m : Nat) (hp : p < 256) : Calls Tryz.prog 16 #[.int .u8 (p : Int), .int .u16 (s : Int), .int .u16 (m : Int)] w fun en w' => en = .returned (.agg #[.int .u8 3, .int .u64 0, .int .i64 3, .int .u32 (pA p : Int), .int .u8 (pN p : Int), .int .u16 (s : Int), .int .u16 (m : Int)]) ∧ Below w.heap.size w w' := by
  have B0 := (Below.refl w.heap.size w).alloc (Nat.le_refl _) (.cells #[.int .u8 0, .int .u64 0, .int .i64 0, .int .u32 0, .int .u8 0, .int .u16 0, .int .u16 0] 32)
  have r0 := heap_alloc_new w (.cells #[.int .u8 0, .int .u64 0, .int .i64 0, .int .u32 0, .int .u8 0, .int .u16 0, .int .u16 0] 32)
  have HC := Lib.hid (fun W => Src.prefix_n p hp W)
  have H0 := Lib.hid (And.intro B0 r0)
  clear B0 r0
  obtain ⟨a, ha⟩ : ∃ a, a = pA p := ⟨_, rfl⟩
  obtain ⟨n, hn⟩ : ∃ n, n = pN p := ⟨_, rfl⟩
  rw [← ha, ← hn] at HC ⊢
  clear ha hn
  go_enter Tryz.func16, Tryz.ntmps16
  go_upto_region 1 with (fail)
  generalize w.alloc _ = w0 at *
  go_wp2_with (go_at_call 19; (with_reducible refine (HC.out _).mono ?_); rintro en w' ⟨rfl, B⟩; have HB := Lib.hid (H0.out.1.trans (B.mono H0.out.1.size)); have HR := Lib.hid (brow B H0.out.2); have hz := (Array.getElem?_eq_some_iff.1 HR.out).1; obtain ⟨k0, k1, k2, k3, k4, k5, k6, kf⟩ := row7 HR.out; clear B)
  have hs7 := set7 HR.out (.int .u8 3) (.int .u64 0) (.int .i64 3) (.int .u32 (a : Int)) (.int .u8 (n : Int)) (.int .u16 (s : Int)) (.int .u16 (m : Int))
  have hB7 := HB.out.grown (Rts.grown7 w' w.heap.size 0 (.int .u8 3) (.int .u64 0) (.int .i64 3) (.int .u32 (a : Int)) (.int .u8 (n : Int)) (.int .u16 (s : Int)) (.int .u16 (m : Int))) HB.out.size (fun k e => by have := Option.some.inj e; omega)
  exact bodyPost_ret (results_cell_row rfl _ _ w.heap.size 32 _ (0, 0) _ rfl hs7 Tryz.underlying32 rfl info32c) rfl ⟨rfl, hB7⟩
theorem gown_row {α : Type} {t : TypeId} {k : Nat} {cl : α → List Value} {w : World} {g B : Nat} {cur : Array Value} {xs : List α} (hr : w.heap[g]? = some (.cells cur t (0, 0))) (hc : cur.toList = xs.flatMap cl) (hk : ∀ x, (cl x).length = k) (hm : xs.length ≤ maxLen) (hB : B ≤ g) : GOwn t k cl w B (.slice (some ⟨g, 0, none⟩) xs.length xs.length) xs := by
  have h1 := gflat_len hk xs
  refine ⟨h1, Or.inr ⟨g, xs.length, cur, rfl, hB, hr, Nat.le_refl _, hm, ?_, ?_⟩⟩
  · rw [← h1, ← hc]; rfl
  · rw [hc, ← h1, List.take_length]
theorem hello_any (w : World) (b n c : Nat) : Calls Tryz.prog 27 #[.int .i64 (b : Int), .int .u64 (n : Int), .int .u16 (c : Int), .slice none 0 0] w fun en w' => ∃ g cap cur, en = .returned (.agg #[.int .i64 (b : Int), .slice (some ⟨g, 0, none⟩) 2 cap]) ∧ w'.heap[g]? = some (.cells cur 32 (0, 0)) ∧ w.heap.size ≤ g ∧ GSl 7 Pt.cl w' (some ⟨g, 0, none⟩) (hel n c) ∧ Below w.heap.size w w' := by
  have B0 := ((Below.refl w.heap.size w).alloc (Nat.le_refl _) (.cells #[.int .i64 0, .slice none 0 0] 36)).alloc (by simp) (.cells #[.int .u8 1, .int .u64 (n : Int), .int .i64 0, .int .u32 0, .int .u8 0, .int .u16 0, .int .u16 0, .int .u8 2, .int .u64 0, .int .i64 0, .int .u32 0, .int .u8 0, .int .u16 0, .int .u16 (c : Int)] 32)
  have rX : ((w.alloc (.cells #[.int .i64 0, .slice none 0 0] 36)).alloc (.cells #[.int .u8 1, .int .u64 (n : Int), .int .i64 0, .int .u32 0, .int .u8 0, .int .u16 0, .int .u16 0, .int .u8 2, .int .u64 0, .int .i64 0, .int .u32 0, .int .u8 0, .int .u16 0, .int .u16 (c : Int)] 32)).heap[w.heap.size]? = some (.cells #[.int .i64 0, .slice none 0 0] 36 (0, 0)) := (heap_alloc_old _ _ (by simp)).trans (heap_alloc_new w _)
  have rY := Src.heap_new1 w (.cells #[.int .i64 0, .slice none 0 0] 36) (.cells #[.int .u8 1, .int .u64 (n : Int), .int .i64 0, .int .u32 0, .int .u8 0, .int .u16 0, .int .u16 0, .int .u8 2, .int .u64 0, .int .i64 0, .int .u32 0, .int .u8 0, .int .u16 0, .int .u16 (c : Int)] 32)
  have hO := gown_row (t := 32) (k := 7) (cl := Pt.cl) (B := w.heap.size) (xs := hel n c) rY rfl (fun _ => rfl) (show 2 ≤ maxLen by decide) (Nat.le_succ _)
  obtain ⟨v2, w2, hrun, O2, G2, -⟩ := ptapp _ w.heap.size (.slice (some ⟨w.heap.size + 1, 0, none⟩) 2 2) (hel n c) [] none 0 0 hO rfl (fun j hj => absurd hj (Nat.not_lt_zero j)) (fun _ => rfl) (show 2 ≤ 1000 by decide) (by decide) B0.size
  rw [List.append_nil] at O2
  have F2 : Fr (fun k => k = w.heap.size + 1) _ w2 := Fr.grown G2 (fun k e => (Option.some.inj e).symm)
  have rX2 := F2.row rX (show ¬ (w.heap.size = w.heap.size + 1) by omega)
  have B2 : Below w.heap.size w w2 := B0.grown G2 B0.size (fun k e => by have h9 : w.heap.size + 1 = k := Option.some.inj e; omega)
  obtain ⟨A2, c2, hv2, -, hs2, hA2⟩ := gsl_of O2 (fun _ => rfl)
  obtain ⟨g, o, rfl, -, -⟩ := hs2 0 (show 0 < 2 by decide)
  obtain ⟨hob, rfl⟩ := hA2 g o rfl
  obtain ⟨hg1, cur, hg2⟩ := O2.lt hob
  have HH := Lib.hid (And.intro hg2 (And.intro hg1 (And.intro hs2 (And.intro rX2 B2))))
  subst hv2
  clear O2 G2 F2 rX2 B2 hs2 hA2 hob hg1 hg2 hO rX rY B0
  go_enter Tryz.func27, Tryz.ntmps27
  go_wp2_with (at_builtin; (refine Lib.wpList_append_run _ rfl (.tmp 14) (.tmp 15) 34 34 rfl _ _ rfl rfl _ _ hrun ?_); clear hrun; obtain ⟨k0, k1, -⟩ := row2 HH.out.2.2.2.1; have hz := (Array.getElem?_eq_some_iff.1 HH.out.2.2.2.1).1; have hf := fun i => frozen_of_row _ _ i _ 36 HH.out.2.2.2.1)
  have hs2 := Src.Tab_set2 HH.out.2.2.2.1 (.int .i64 (b : Int)) (.slice (some ⟨g, 0, none⟩) 2 c2)
  have hgb : g ≠ w.heap.size := fun e9 => by
    have h1 := HH.out.2.2.2.1
    rw [← e9, HH.out.1] at h1
    injection h1 with h1
    injection h1 with _ h2 _
    exact absurd h2 (by decide)
  have F9 : Fr (fun k => k = w.heap.size) w2 _ := Fr.grown (grown2 w2 w.heap.size (.int .i64 (b : Int)) (.slice (some ⟨g, 0, none⟩) 2 c2)) (fun k e => (Option.some.inj e).symm)
  exact bodyPost_ret (results_cell_row rfl _ _ w.heap.size 36 _ (0, 0) _ rfl hs2 Tryz.underlying36 rfl info36c) rfl ⟨g, c2, cur, rfl, F9.row HH.out.1 hgb, HH.out.2.1, HH.out.2.2.1.fr F9 (fun b o e9 => by injection e9 with e9; injection e9 with e1; exact fun h => hgb (e1.trans h)), HH.out.2.2.2.2.grown (grown2 w2 w.heap.size _ _) HH.out.2.2.2.2.size (fun k e => by have := Option.some.inj e; omega)⟩
theorem sok_b0 : Eng.b0.SelOk := ⟨fun x hx => (by cases hx), fun h hh x hx => (by cases hx), List.pairwise_singleton _ _, by decide, by decide⟩
theorem new_law (w : World) (z : Nat) (hs : GSl 2 clP w (some ⟨z, 0, none⟩) [(201326592, 24)]) (hT : Lk.Tab w) :
    Calls Tryz.prog 32 #[.int .i64 0, .slice (some ⟨z, 0, none⟩) 1 1, .slice none 0 0] w fun en w' => ∃ q, en = .returned (.pointer (some ⟨q, 0, none⟩)) ∧ LW w w' q Eng.b0 [] := by
  refine (new_eng w 0 (by decide) (some ⟨z, 0, none⟩) 1 1 [(201326592, 24)] rfl hs (fun p hp => by rw [List.mem_singleton] at hp; subst hp; exact ⟨by decide, by decide⟩) (by decide) (.slice none 0 0) f0 0 (by decide) (fun a n m h => by cases h) (of_nil w) hT).mono ?_
  rintro en w' ⟨q, rfl, hI, hok⟩
  rw [new_b0] at hI hok
  exact ⟨q, rfl, hI.lw hok⟩
theorem sel_none {e e' : Eng} {ts : List Ro} (h : Sel e e' ts) (hL : e.L = []) (ho : e.own = [oH]) (hi : e.id = 0) : ts = [⟨201326592, 24, 0, 0, 1⟩] := by
  obtain ⟨rs, bs, -, hl, hp, -⟩ := h
  rw [hL] at hl
  obtain rfl : rs = [] := List.eq_nil_of_length_eq_zero (Nat.le_zero.1 hl)
  have h1 : e.ways [] = [⟨201326592, 24, 0, 0, 1⟩] := by
    unfold Eng.ways
    rw [ho, hi]; rfl
  rw [h1] at hp
  exact List.perm_singleton.1 hp
theorem hear_one {w W : World} {q : Nat} {e : Eng} {K : Kept} {a b z : Nat} {x : Array Value} (h : LW w W q e ((z, x, 32) :: K)) (hm : Met a b e) {u : Pt} (hs : GSl 7 Pt.cl W (some ⟨z, 0, none⟩) [u]) (hu : u.Ok) (h3 : u.k = 3) {k now : Nat} (hk : k = 1 ∨ k = 2) (hl : e.L.length ≤ 100) (hnow : now ≤ 1000) :
    Calls Tryz.prog 15 #[.pointer (some ⟨q, 0, none⟩), .agg #[.int .i64 (k : Int), .slice (some ⟨z, 0, none⟩) 1 1], .int .i64 0, .int .u64 (now : Int)] W fun en w' => en = .returned (.tuple #[]) ∧ LW w w' q (e.upd k now u) K := by
  have hc := hear_lw h k 0 now (some ⟨z, 0, none⟩) 1 1 [u] rfl hs (Or.inr ⟨z, x, rfl, List.mem_cons_self ..⟩) (fun y hy => by rw [List.mem_singleton] at hy; subst hy; exact hu) (by omega) (by rw [hm.id]; omega) (by omega) (by have := hm.st; omega) (by omega) (by rw [hm.nb]; show 2 ≤ 99; decide) (by show e.L.length + 1 ≤ 199; omega) (fun y hy h4 => by rw [List.mem_singleton] at hy; subst hy; omega)
  rw [hear_upd hm hk h3] at hc
  refine hc.mono ?_
  rintro en w' ⟨rfl, hL⟩
  exact ⟨rfl, hL.sub fun k hk => List.mem_cons_of_mem _ hk⟩
theorem hear_12 {w W : World} {q : Nat} {e : Eng} {K : Kept} {a b z : Nat} {x : Array Value} (h : LW w W q e ((z, x, 32) :: K)) (hm : Met a b e) {u : Pt} (hs : GSl 7 Pt.cl W (some ⟨z, 0, none⟩) [u]) (hu : u.Ok) (h3 : u.k = 3) (hl : e.L.length ≤ 100) :
    Calls Tryz.prog 15 #[.pointer (some ⟨q, 0, none⟩), .agg #[.int .i64 1, .slice (some ⟨z, 0, none⟩) 1 1], .int .i64 0, .int .u64 2] W fun en w' => en = .returned (.tuple #[]) ∧ LW w w' q (e.upd 1 2 u) K := hear_one (k := 1) (now := 2) h hm hs hu h3 (Or.inl rfl) hl (by decide)
theorem row_up (W : World) (d a n s m : Nat) : GSl 7 Pt.cl (W.alloc (.cells #[.int .u8 3, .int .u64 0, .int .i64 (d : Int), .int .u32 (a : Int), .int .u8 (n : Int), .int .u16 (s : Int), .int .u16 (m : Int)] 32)) (some ⟨W.heap.size, 0, none⟩) [⟨3, 0, d, a, n, s, m⟩] :=
  gsl_row (cl := Pt.cl) (x := (⟨3, 0, d, a, n, s, m⟩ : Pt)) (heap_alloc_new W (.cells #[.int .u8 3, .int .u64 0, .int .i64 (d : Int), .int .u32 (a : Int), .int .u8 (n : Int), .int .u16 (s : Int), .int .u16 (m : Int)] 32))
theorem hear_hi {w W : World} {q : Nat} {K : Kept} {l : List (Nat × Lk.L)} {z cap b n c : Nat} {x : Array Value} (h : LW w W q (Eng.b1 l) ((z, x, 32) :: K)) (hs : GSl 7 Pt.cl W (some ⟨z, 0, none⟩) (hel n c)) (hb : b = 1 ∨ b = 2) (hn : n ≤ 100) (hc : c < 65536) (hl : l.length ≤ 10) :
    Calls Tryz.prog 15 #[.pointer (some ⟨q, 0, none⟩), .agg #[.int .i64 (b : Int), .slice (some ⟨z, 0, none⟩) 2 cap], .int .i64 0, .int .u64 1] W fun en w' => en = .returned (.tuple #[]) ∧ LW w w' q ((Eng.b1 l).hear b 0 1 (hel n c)) K := by
  refine (hear_lw h b 0 1 (some ⟨z, 0, none⟩) 2 cap (hel n c) rfl hs (Or.inr ⟨z, x, rfl, List.mem_cons_self ..⟩) (fun y hy => ?_) (by omega) (by show b ≠ 0; omega) (by decide) (Nat.zero_le 900000) (by decide) (by show l.length ≤ 99; omega) (by show 0 + 2 ≤ 199; decide) (fun y hy h4 => ?_)).mono ?_
  · unfold hel at hy
    simp only [List.mem_cons, List.not_mem_nil, or_false] at hy
    have hr : Pre.right 0 0 = true := by decide +kernel
    rcases hy with rfl | rfl
    · exact ⟨show 1 < 256 by decide, show n < 4611686018427387904 by omega, show 0 < 16 by decide, show 0 < 4294967296 by decide, show 0 < 256 by decide, hr, show 0 < 65536 by decide, Nat.zero_le 65535⟩
    · exact ⟨show 2 < 256 by decide, show 0 < 4611686018427387904 by decide, show 0 < 16 by decide, show 0 < 4294967296 by decide, show 0 < 256 by decide, hr, show 0 < 65536 by decide, show c ≤ 65535 by omega⟩
  · unfold hel at hy
    simp only [List.mem_cons, List.not_mem_nil, or_false] at hy
    rcases hy with rfl | rfl
    · exact absurd h4 (show ¬ (1 = 4) by decide)
    · exact absurd h4 (show ¬ (2 = 4) by decide)
  · rintro en w' ⟨rfl, hL⟩
    exact ⟨rfl, hL.sub fun k hk => List.mem_cons_of_mem _ hk⟩
theorem LW.new {w W W' : World} {q : Nat} {e : Eng} {K : Kept} (h : LW w W q e K) (B : Below W.heap.size W W') {g : Nat} {x : Array Value} {t : TypeId} (hg : W.heap.size ≤ g) (hr : W'.heap[g]? = some (.cells x t (0, 0))) (ht : t ≠ 167 := by decide) : LW w W' q e ((g, x, t) :: K) := by
  obtain ⟨m, hE, hK⟩ := h.ex
  refine ⟨h.b.trans (B.mono h.b.size), ⟨m, hE.step B, fun k hk => ?_⟩, h.ok⟩
  rcases List.mem_cons.1 hk with rfl | hk
  · exact ⟨hr, ht, fun hx => absurd (hE.x_lt hx).2.1 (Nat.not_lt.2 hg)⟩
  · exact ⟨brow B (hK k hk).1, (hK k hk).2⟩
end Go.Proofs.YtjbogjbopgcbhaaGreatDoor.Eg
namespace Go.Proofs.YtjbogjbopgcbhaaGreatDoor.Eg
open Pre Ser Rts
open Go.Proofs.YtjbogjbopgcbhaaGreatDoor.Src (row1 row2 Mk SrcAt)
open Go.Proofs.YtjbogjbopgcbhaaGreatDoor.Lk (LkAt)
open Go.ChangeShapes Go.WideShapes Go.ChangeAt Go.RowKit
set_option maxRecDepth 8000
set_option linter.unusedVariables false
set_option linter.unusedSimpArgs false
open Go.Proofs.YtjbogjbopgcbhaaGreatDoor.Src (pv mv pA pN)
set_option linter.unusedSimpArgs false
def OWNC (w : World) (lb : Nat) : Prop := w.cell? ⟨lb, 0, none⟩ = some (.int .u32 201326592) ∧ w.cell? ⟨lb, 1, none⟩ = some (.int .u8 24) ∧ w.cell? ⟨lb, 2, none⟩ = some (.int .i64 0) ∧ w.cell? ⟨lb, 3, none⟩ = some (.int .u16 0) ∧ w.cell? ⟨lb, 4, none⟩ = some (.int .u16 1)
set_option maxHeartbeats 4000000 in
theorem awake_any (w : World) (hT : Lk.Tab w) : Calls Tryz.prog 13 #[] w fun e w' => e = .returned (.bool true) ∧ Below w.heap.size w w' := by
  have h0 := Lk.tab_size hT
  have HT := Lib.hid hT
  clear hT
  go_enter Tryz.func13, Tryz.ntmps13
  go_upto_region 3 with (first
    | (go_at_call 25; (with_reducible refine (own_call _).mono ?_); rintro en w1 ⟨z, rfl, hS, hR, B1⟩; have H1 := Lib.hid (And.intro hS (And.intro (Lk.tab_below HT.out B1 h0) B1)); clear hS hR B1)
    | (go_at_call 32; (with_reducible refine (new_law _ _ H1.out.1 H1.out.2.1).mono ?_); rintro en w2 ⟨q, rfl, hL⟩; have HL := Lib.hid hL; clear hL)
    | (go_at_call 17; (with_reducible refine (select_lw HL.out sok_b0).mono ?_); rintro en w3 ⟨v', e', ts, rfl, hS, hL, hO, -⟩; obtain rfl := sel_none hS rfl rfl rfl; obtain ⟨A3, lc, hv3, -, hc⟩ := hO.form (fun _ => rfl); obtain ⟨lb, hA, -, hlb, hcc⟩ := hc 0 (by decide); subst hA; have hv3 : v' = .slice (some ⟨lb, 0, none⟩) 1 lc := hv3; have HC : Hid (OWNC w3 lb) := Lib.hid ⟨hcc 0 (by decide), hcc 1 (by decide), hcc 2 (by decide), hcc 3 (by decide), hcc 4 (by decide)⟩; have HLB := Lib.hid hlb; have HL3 := Lib.hid hL; subst hv3; clear hS hL hO hc hcc hlb HL))
  refine wp_region_noPanic ?_
  refine wp_region_held_drew (S := fun y : World => Below w3.heap.size w3 y) (by kernel_rfl) ((Below.refl _ _).drew) (fun hHeld => ?_)
  generalize w3.drew = wd at *
  refine wpAnyH_take (i := 0) (oi := ⟨some 7, .move (.tmp 2), 37, "law.go:19", #[], none⟩) (v := .slice (some ⟨lb, 0, none⟩) 1 lc) rfl (by kernel_rfl) (by kernel_rfl) (by kernel_rfl) (fun _ _ _ h => h) (Or.inl ⟨by rfl, fun w hSw => by go_simp⟩) (by assumption) ?_
  try simp only [Act.put, List.setIfInBounds_toArray, List.set_cons_zero, List.set_cons_succ]
  refine wpAnyH_take (i := 1) (oi := ⟨some 8, .call ⟨.builtin .len, #[.tmp 7], #[37]⟩, 3, "law.go:19", #[⟨0, .data⟩], none⟩) (v := .int .i64 (1 : Nat)) rfl (by kernel_rfl) (by kernel_rfl) (by kernel_rfl) (fun _ _ _ h => h) (Or.inl ⟨by rfl, fun w hSw => by go_simp⟩) (by assumption) ?_
  try simp only [Act.put, List.setIfInBounds_toArray, List.set_cons_zero, List.set_cons_succ]
  refine wpAnyH_take (i := 2) (oi := ⟨some 9, .binOp .eql 3 (.tmp 8) (.const (.int .i64 1)) 3, 4, "law.go:19", #[⟨1, .data⟩], none⟩) (v := .bool true) rfl (by kernel_rfl) (by kernel_rfl) (by kernel_rfl) (fun _ _ _ h => h) (Or.inl ⟨by rfl, fun w hSw => by go_simp⟩) (by assumption) ?_
  try simp only [Act.put, List.setIfInBounds_toArray, List.set_cons_zero, List.set_cons_succ]
  refine wpAnyH_take (i := 3) (oi := ⟨some 10, .move (.tmp 9), 4, "law.go:19", #[⟨2, .data⟩], none⟩) (v := .bool true) rfl (by kernel_rfl) (by kernel_rfl) (by kernel_rfl) (fun _ _ _ h => h) (Or.inl ⟨by rfl, fun w hSw => by go_simp⟩) (by assumption) ?_
  try simp only [Act.put, List.setIfInBounds_toArray, List.set_cons_zero, List.set_cons_succ]
  refine wpAnyH_take (i := 4) (oi := ⟨some 11, .move (.tmp 2), 37, "law.go:19", #[⟨3, .guard⟩], some (3, true)⟩) (v := .slice (some ⟨lb, 0, none⟩) 1 lc) rfl (by kernel_rfl) (by kernel_rfl) (by kernel_rfl) (fun _ _ _ h => h) (Or.inl ⟨by rfl, fun w hSw => by go_simp⟩) (by assumption) ?_
  try simp only [Act.put, List.setIfInBounds_toArray, List.set_cons_zero, List.set_cons_succ]
  refine wpAnyH_take (i := 5) (oi := ⟨some 12, .indexAddr 37 (.tmp 11) (.const (.int .i64 0)), 0, "law.go:19", #[⟨4, .data⟩, ⟨3, .guard⟩], some (3, true)⟩) (v := .pointer (some ⟨lb, 0, none⟩)) rfl (by kernel_rfl) (by kernel_rfl) (by kernel_rfl) (fun _ _ _ h => h) (Or.inl ⟨by rfl, fun w hSw => by go_simp⟩) (by assumption) ?_
  try simp only [Act.put, List.setIfInBounds_toArray, List.set_cons_zero, List.set_cons_succ]
  refine wpAnyH_take (i := 6) (oi := ⟨some 13, .load 40 (.tmp 12), 40, "law.go:19", #[⟨5, .data⟩, ⟨3, .guard⟩], some (3, true)⟩) (v := .agg #[.int .u32 201326592, .int .u8 24, .int .i64 0, .int .u16 0, .int .u16 1]) rfl (by kernel_rfl) (by kernel_rfl) (by kernel_rfl) (fun _ _ _ h => h) (Or.inl ⟨by rfl, fun w hSw => by obtain ⟨k0, k1, k2, k3, k4⟩ := HC.out; have hb := Ser.bcell hSw; have hlt := Nat.lt_of_lt_of_le HLB.out hSw.size; rw [← hb.1 _ _ HLB.out] at k0 k1 k2 k3 k4; go_simp⟩) (by assumption) ?_
  try simp only [Act.put, List.setIfInBounds_toArray, List.set_cons_zero, List.set_cons_succ]
  refine wpAnyH_ready (rs := [7]) (by kernel_rfl) (by simp) ?_
  refine (AllReadyH.cons (o := ⟨some 14, .call ⟨.value (.func 25), #[], #[]⟩, 64, "law.go:19", #[⟨3, .chain⟩, ⟨3, .guard⟩], some (3, true)⟩) rfl (fun K hK => ?_) AllReadyH.nil)
  have hct := own_call wd
  go_simp
  with_reducible refine hct.mono ?_
  rintro en wd2 ⟨z, rfl, hO, hOR, B3⟩
  have HO := Lib.hid hOR
  refine hK.out _ _ (hHeld.trans (B3.mono hHeld.size)) (fun hHeld2 => ?_)
  clear hK K hHeld
  have hHeld := hHeld2
  clear hHeld2
  try simp only [Act.put, List.setIfInBounds_toArray, List.set_cons_zero, List.set_cons_succ]
  clear hct hO hOR B3
  generalize wd2 = wd at *
  refine wpAnyH_take (i := 8) (oi := ⟨some 15, .indexAddr 64 (.tmp 14) (.const (.int .i64 0)), 0, "law.go:19", #[⟨7, .data⟩, ⟨3, .guard⟩], some (3, true)⟩) (v := .pointer (some ⟨z, 0, none⟩)) rfl (by kernel_rfl) (by kernel_rfl) (by kernel_rfl) (fun _ _ _ h => h) (Or.inl ⟨by rfl, fun w hSw => by go_simp⟩) (by assumption) ?_
  try simp only [Act.put, List.setIfInBounds_toArray, List.set_cons_zero, List.set_cons_succ]
  refine wpAnyH_ready (rs := [9]) (by kernel_rfl) (by simp) ?_
  refine (AllReadyH.cons (o := ⟨some 16, .load 30 (.tmp 15), 30, "law.go:19", #[⟨8, .data⟩, ⟨3, .guard⟩], some (3, true)⟩) rfl (fun K hK => ?_) AllReadyH.nil)
  obtain ⟨p0, p1, -⟩ := row2 HO.out
  have hzl := (Array.getElem?_eq_some_iff.1 HO.out).1
  go_simp
  refine hK.out _ _ (hHeld) (fun hHeld2 => ?_)
  clear hK K hHeld
  have hHeld := hHeld2
  clear hHeld2
  try simp only [Act.put, List.setIfInBounds_toArray, List.set_cons_zero, List.set_cons_succ]
  refine wpAnyH_take (i := 10) (oi := ⟨some 17, .build 40 #[(0, .tmp 16), (1, .const (.int .i64 0)), (2, .const (.int .u16 0)), (3, .const (.int .u16 1))], 40, "law.go:19", #[⟨9, .data⟩, ⟨3, .guard⟩], some (3, true)⟩) (v := .agg #[.int .u32 201326592, .int .u8 24, .int .i64 0, .int .u16 0, .int .u16 1]) rfl (by kernel_rfl) (by kernel_rfl) (by kernel_rfl) (fun _ _ _ h => h) (Or.inl ⟨by rfl, fun w hSw => by go_simp⟩) (by assumption) ?_
  try simp only [Act.put, List.setIfInBounds_toArray, List.set_cons_zero, List.set_cons_succ]
  refine wpAnyH_take (i := 11) (oi := ⟨some 18, .binOp .eql 40 (.tmp 13) (.tmp 17) 40, 4, "law.go:19", #[⟨6, .data⟩, ⟨10, .data⟩, ⟨3, .guard⟩], some (3, true)⟩) (v := .bool true) rfl (by kernel_rfl) (by kernel_rfl) (by kernel_rfl) (fun _ _ _ h => h) (Or.inl ⟨by rfl, fun w hSw => by go_simp⟩) (by assumption) ?_
  try simp only [Act.put, List.setIfInBounds_toArray, List.set_cons_zero, List.set_cons_succ]
  refine wpAnyH_take (i := 12) (oi := ⟨some 19, .pick (.tmp 10) (.tmp 18) (.const (.bool false)), 4, "law.go:19", #[⟨3, .data⟩, ⟨11, .data⟩], none⟩) (v := .bool true) rfl (by kernel_rfl) (by kernel_rfl) (by kernel_rfl) (fun _ _ _ h => h) (Or.inl ⟨by rfl, fun w hSw => by go_simp⟩) (by assumption) ?_
  try simp only [Act.put, List.setIfInBounds_toArray, List.set_cons_zero, List.set_cons_succ]
  refine wpAnyH_take (i := 13) (oi := ⟨some 0, .assign (.tmp 19), 4, "law.go:19", #[⟨12, .data⟩, ⟨7, .chain⟩, ⟨0, .phase⟩, ⟨1, .phase⟩, ⟨2, .phase⟩, ⟨3, .phase⟩, ⟨4, .phase⟩, ⟨5, .phase⟩, ⟨6, .phase⟩, ⟨7, .phase⟩, ⟨8, .phase⟩, ⟨9, .phase⟩, ⟨10, .phase⟩, ⟨11, .phase⟩, ⟨12, .phase⟩], none⟩) (v := .bool true) rfl (by kernel_rfl) (by kernel_rfl) (by kernel_rfl) (fun _ _ _ h => h) (Or.inl ⟨by rfl, fun w hSw => by go_simp⟩) (by assumption) ?_
  try simp only [Act.put, List.setIfInBounds_toArray, List.set_cons_zero, List.set_cons_succ]
  refine wpAnyH_done (by kernel_rfl) ?_ _
  try unfold NoPanic
  have HD := Lib.hid hHeld
  clear hHeld
  go_wp2
  go_ret
  exact ⟨rfl, (H1.out.2.2.trans (HL3.out.b.mono H1.out.2.2.size)).trans (HD.out.mono (Nat.le_trans H1.out.2.2.size HL3.out.b.size))⟩
def h1 (c : Nat) : Lk.L := ⟨1, 0, 7, max c 1, 21⟩
def nbA (a b n : Nat) : List (Nat × Lk.L) := if n = 0 then [] else if n = 1 then [(1, h1 a), (2, h1 b)] else [(1, lk a), (2, lk b)]
def nbB (a b n : Nat) : List (Nat × Lk.L) := if n = 0 then [(1, h1 a)] else [(1, lk a), (2, h1 b)]
theorem stA {a b n : Nat} (h : n < 2) : (Eng.b1 (nbA a b n)).hear 1 0 1 (hel n a) = Eng.b1 (nbB a b n) := by
  have : n = 0 ∨ n = 1 := by omega
  rcases this with rfl | rfl
  · exact met1 a
  · exact met3 a b
theorem stB {a b n : Nat} (h : n < 2) : (Eng.b1 (nbB a b n)).hear 2 0 1 (hel n b) = Eng.b1 (nbA a b (n + 1)) := by
  have : n = 0 ∨ n = 1 := by omega
  rcases this with rfl | rfl
  · exact met2 a b
  · exact met4 a b
theorem nb_len {a b n : Nat} : (nbA a b n).length ≤ 2 ∧ (nbB a b n).length ≤ 2 := by
  unfold nbA nbB
  constructor
  · split
    · decide
    · split <;> exact Nat.le_refl 2
  · split
    · exact Nat.le_succ 1
    · exact Nat.le_refl 2
set_option maxHeartbeats 4000000 in
theorem met_any (w : World) (a b : Nat) (ha : a < 65536) (hb : b < 65536) (hT : Lk.Tab w) : Calls Tryz.prog 14 #[.int .u16 (a : Int), .int .u16 (b : Int)] w fun en w' => ∃ q w1, en = .returned (.pointer (some ⟨q, 0, none⟩)) ∧ Below w.heap.size w w1 ∧ LW w1 w' q (Eng.m0 a b) [] := by
  have h0 := Lk.tab_size hT
  have HT := Lib.hid hT
  have HAB := Lib.hid (And.intro ha hb)
  clear hT ha hb
  go_enter Tryz.func14, Tryz.ntmps14
  go_wp2_with (first
    | (go_at_call 25; (with_reducible refine (own_call _).mono ?_); rintro en w1 ⟨z, rfl, hS, hR, B1⟩; have H1 := Lib.hid (And.intro hS (And.intro (Lk.tab_below HT.out B1 h0) B1)); clear hS hR B1)
    | (go_at_call 32; (with_reducible refine (new_law _ _ H1.out.1 H1.out.2.1).mono ?_); rintro en w2 ⟨q, rfl, hL⟩; have HL := Lib.hid hL; clear hL))
  go_loopw [6] (fun v6 wr => ∃ n : Nat, n ≤ 2 ∧ v6 = .int .u64 n ∧ Hid (LW w1 wr q (Eng.b1 (nbA a b n)) [])) (fun v6 _ => 2 - (intOf v6).toNat)
  case atStart => exact ⟨0, by decide, rfl, HL⟩
  case round =>
    obtain ⟨n, hn, rfl, HR⟩ := hrel
    clear HL
    by_cases hlt : n < 2
    · have HH1 : Hid (∀ W, Calls Tryz.prog 27 #[.int .i64 1, .int .u64 (n : Int), .int .u16 (a : Int), .slice none 0 0] W fun en w' => ∃ g cap cur, en = .returned (.agg #[.int .i64 1, .slice (some ⟨g, 0, none⟩) 2 cap]) ∧ w'.heap[g]? = some (.cells cur 32 (0, 0)) ∧ W.heap.size ≤ g ∧ GSl 7 Pt.cl w' (some ⟨g, 0, none⟩) (hel n a) ∧ Below W.heap.size W w') := Lib.hid fun W => hello_any W 1 n a
      have HH2 : Hid (∀ W, Calls Tryz.prog 27 #[.int .i64 2, .int .u64 (n : Int), .int .u16 (b : Int), .slice none 0 0] W fun en w' => ∃ g cap cur, en = .returned (.agg #[.int .i64 2, .slice (some ⟨g, 0, none⟩) 2 cap]) ∧ w'.heap[g]? = some (.cells cur 32 (0, 0)) ∧ W.heap.size ≤ g ∧ GSl 7 Pt.cl w' (some ⟨g, 0, none⟩) (hel n b) ∧ Below W.heap.size W w') := Lib.hid fun W => hello_any W 2 n b
      have HE1 : Hid (∀ W g cap cur, LW w1 W q (Eng.b1 (nbA a b n)) [(g, cur, 32)] → GSl 7 Pt.cl W (some ⟨g, 0, none⟩) (hel n a) → Calls Tryz.prog 15 #[.pointer (some ⟨q, 0, none⟩), .agg #[.int .i64 1, .slice (some ⟨g, 0, none⟩) 2 cap], .int .i64 0, .int .u64 1] W fun en w' => en = .returned (.tuple #[]) ∧ LW w1 w' q (Eng.b1 (nbB a b n)) []) := Lib.hid fun W g cap cur hL hs => by
        have := hear_hi (b := 1) (cap := cap) hL hs (Or.inl rfl) (by omega) HAB.out.1 (Nat.le_trans nb_len.1 (by decide))
        rw [stA hlt] at this
        exact this
      have HE2 : Hid (∀ W g cap cur, LW w1 W q (Eng.b1 (nbB a b n)) [(g, cur, 32)] → GSl 7 Pt.cl W (some ⟨g, 0, none⟩) (hel n b) → Calls Tryz.prog 15 #[.pointer (some ⟨q, 0, none⟩), .agg #[.int .i64 2, .slice (some ⟨g, 0, none⟩) 2 cap], .int .i64 0, .int .u64 1] W fun en w' => en = .returned (.tuple #[]) ∧ LW w1 w' q (Eng.b1 (nbA a b (n + 1))) []) := Lib.hid fun W g cap cur hL hs => by
        have := hear_hi (b := 2) (cap := cap) hL hs (Or.inr rfl) (by omega) HAB.out.2 (Nat.le_trans nb_len.2 (by decide))
        rw [stB hlt] at this
        exact this
      go_wp2_with (first
        | (go_at_call 27; (with_reducible refine (HH1.out _).mono ?_); rintro en w3 ⟨g3, p3, c3, rfl, hr, hg, hs, B⟩; have H3 := Lib.hid (And.intro (HR.out.new B hg hr) hs); clear HR HH1 hr hg hs B)
        | (go_at_call 27; (with_reducible refine (HH2.out _).mono ?_); rintro en w5 ⟨g5, p5, c5, rfl, hr, hg, hs, B⟩; have H5 := Lib.hid (And.intro (H4.out.new B hg hr) hs); clear H4 HH2 hr hg hs B)
        | (go_at_call 15; (with_reducible refine (HE1.out _ _ _ _ H3.out.1 H3.out.2).mono ?_); rintro en w4 ⟨rfl, hL⟩; have H4 := Lib.hid hL; clear hL H3 HE1)
        | (go_at_call 15; (with_reducible refine (HE2.out _ _ _ _ H5.out.1 H5.out.2).mono ?_); rintro en w6 ⟨rfl, hL⟩; have H6 := Lib.hid hL; clear hL H5 HE2))
      go_roundw
      case rel => exact ⟨n + 1, by omega, by go_num, H6⟩
      case measure => simp [intOf]; omega
    · obtain rfl : n = 2 := by omega
      go_wp2
      go_ret
      exact ⟨q, w1, rfl, H1.out.2.2, HR.out⟩
end Go.Proofs.YtjbogjbopgcbhaaGreatDoor.Eg
