/- What a shelf's acts do in memory: New, Names, Create, Rename, Delete. -/
import Derived.Test.YtdbhgkbmbbjpdaaGreatDoorShs
namespace Go.Proofs.YtdbhgkbmbbjpdaaGreatDoor.Shf
open Go.ChangeShapes Go.WideShapes Go.ChangeAt Go.RowKit
def M.new (room : Int) : M := ⟨room, [], [], [], fun _ => ([], 0), 0, 0, 0, false, 0, false⟩
theorem Fine.new (room : Int) (h : room ≤ 1000000000) : Fine (M.new room) :=
  ⟨(fun h => by cases h), rfl, (fun k _ => by show Good (ages [] (([] : List Mv).take k)); rw [List.take_nil]; exact Good.nil), rfl, h, by show 0 + 0 ≤ 1000000000; omega, [], by simp, by simp, (fun k _ b hb => by left; have hb : b ∈ files (ages [] (([] : List Mv).take k)) := hb; rw [List.take_nil] at hb; exact hb), by simp, rfl⟩
theorem new_rep (w : World) (room : Int) (hr : room ≤ 1000000000) : Calls Tryz.prog 10 #[.int .i64 room] w fun e w' => ∃ q T, e = .returned (.pointer (some ⟨q, 0, none⟩)) ∧ Rep w' T q (M.new room) ∧ Below w.heap.size w w' ∧ (∀ k, T k ≠ .none → w.heap.size ≤ k) := by
  have hb := alloc1 w (.cells (ShV (M.new room) (.map none) (.map none) (.slice none 0 0)) 79)
  have HB := Lib.hid hb
  clear hb
  go_enter Tryz.func10, Tryz.ntmps10
  go_wp2
  go_ret
  refine ⟨w.heap.size, fun k => if k = w.heap.size then .shelf else .none, rfl, ⟨⟨.map none, .map none, .slice none 0 0, 0, 0, ?_⟩, Fine.new room hr⟩, (Below.refl _ w).alloc (Nat.le_refl _) _, fun k h => ?_⟩
  · have tn : ∀ {b}, (if b = w.heap.size then Tag.shelf else Tag.none) = .file → False := fun {b} h => by split at h <;> cases h
    refine ⟨HB.out, if_pos rfl, Or.inl ⟨rfl, rfl⟩, (fun b h => by cases h), Or.inl ⟨rfl, rfl⟩, (fun b h => by cases h), ⟨rfl, Or.inl ⟨rfl, rfl⟩⟩, (fun b h => by cases h), fun b h => (tn h).elim, fun b h => ?_, (fun p h => by cases h), (fun p h => by cases h), (fun p h => by cases h), Nat.le_refl _, Nat.le_refl _⟩
    have h : (if b = w.heap.size then Tag.shelf else Tag.none) ≠ .none := h
    by_cases e : b = w.heap.size
    · subst e; simp
    · rw [if_neg e] at h; exact absurd rfl h
  · have h : (if k = w.heap.size then Tag.shelf else Tag.none) ≠ .none := h
    by_cases e : k = w.heap.size
    · omega
    · rw [if_neg e] at h; exact absurd rfl h
theorem ages_live {T : Nat → Tag} : ∀ (l : List (S × Nat)) (vs : List Mv), (∀ p ∈ l, T p.2 = .file) → (∀ v ∈ vs, ∀ b, v.f = some b → T b = .file) → ∀ p ∈ ages l vs, T p.2 = .file := by
  intro l vs
  induction vs generalizing l with
  | nil => intro h _ p hp; exact h p hp
  | cons v vs ih =>
    intro h h2 p hp
    refine ih (v.on l) ?_ (fun x hx => h2 x (List.mem_cons_of_mem _ hx)) p hp
    intro p hp
    unfold Mv.on at hp
    cases hvf : v.f with
    | none => rw [hvf] at hp; exact h p (mem_wo.1 hp).1
    | some c =>
      rw [hvf] at hp
      rcases List.mem_append.1 hp with hp | hp
      · exact h p (mem_wo.1 (mem_wo.1 hp).1).1
      · simp at hp; subst hp; exact h2 v (List.mem_cons_self ..) c hvf
theorem RepV.live {w : World} {T : Nat → Tag} {q : Nat} {m : M} {nv sv mv : Value} {nn ns : Nat} (R : RepV w T q m nv sv mv nn ns) (k : Nat) {b : Nat} (h : b ∈ files (ages m.safe (m.moves.take k))) : T b = .file := by
  obtain ⟨s, hs⟩ := mem_files.1 h
  exact ages_live _ _ R.lsafe (fun v hv => (R.lmov v (List.mem_of_mem_take hv)).1) _ hs
theorem RepV.settle_step {w w' : World} {T : Nat → Tag} {q : Nat} {m m' : M} {nv sv mv sv' : Value} {nn ns k : Nat} (R : RepV w T q m nv sv mv nn ns) (hk : k ≤ m.moves.length) (e : m' = {m with safe := ages m.safe (m.moves.take k), moves := [], gone := 0})
    (hS : ShAt w' q m' nv sv' (.slice none 0 0)) (hN : NMv w' sv' (ns + k) (ages m.safe (m.moves.take k))) (hb : ∀ b, mapBlock sv' = some b → mapBlock sv = some b ∨ w.heap.size ≤ b) (hc : Chg w w' (fun k => k = q ∨ mapBlock sv = some k)) :
    RepV w' (fun b => if b < w.heap.size then T b else if mapBlock sv' = some b then .safe else .none) q m' nv sv' (.slice none 0 0) nn (ns + k) := by
  subst e
  have keep : ∀ {b t}, T b = t → t ≠ .none → (if b < w.heap.size then T b else if mapBlock sv' = some b then Tag.safe else .none) = t := fun {b t} h ht => by
    rw [if_pos (R.old b (by rw [h]; exact ht)), h]
  have ne : ∀ {b}, T b ≠ .shelf → T b ≠ .safe → ¬ (b = q ∨ mapBlock sv = some b) := fun k1 k2 h => by
    rcases h with h | h
    · exact k1 (by rw [h]; exact R.tq)
    · exact k2 (R.ts _ h)
  have back : ∀ {b}, (if b < w.heap.size then T b else if mapBlock sv' = some b then Tag.safe else .none) = .file → T b = .file := fun {b} hb => by
    by_cases e : b < w.heap.size
    · rwa [if_pos e] at hb
    · rw [if_neg e] at hb; split at hb <;> cases hb
  have hlive := @ages_live T
  have hbns := R.bns
  refine ⟨hS, keep R.tq (by intro h; cases h), R.nm.at hc (fun b hb => ne (by rw [R.tn b hb]; intro h; cases h) (by rw [R.tn b hb]; intro h; cases h)), fun b hb => keep (R.tn b hb) (by intro h; cases h), hN, ?_, ⟨rfl, Or.inl ⟨rfl, rfl⟩⟩, fun b h => (by cases h), ?_, ?_,
    fun p hp => keep (R.lnow p hp) (by intro h; cases h), fun p hp => keep (hlive _ _ R.lsafe (fun v hv => (R.lmov v (List.mem_of_mem_take hv)).1) p hp) (by intro h; cases h), fun v hv => (by cases hv), R.bnn, by show ns + k + 0 ≤ m.done; omega⟩
  · intro b hb'
    rcases hb b hb' with h | h
    · exact keep (R.ts b h) (by intro h; cases h)
    · rw [if_neg (by omega), if_pos hb']
  · intro b hb
    have hb' := back hb
    obtain ⟨x, k1, k2, k3, k4⟩ := R.fl b hb'
    exact ⟨x, k1.at hc (ne (by rw [hb']; intro h; cases h) (by rw [hb']; intro h; cases h)), k2.at hc (fun g hg => ne (by rw [k3 g hg]; intro h; cases h) (by rw [k3 g hg]; intro h; cases h)), fun g hg => keep (k3 g hg) (by intro h; cases h), k4⟩
  · intro b hb
    by_cases e : b < w.heap.size
    · exact Nat.lt_of_lt_of_le e hc.size
    · rw [if_neg e] at hb
      by_cases e2 : mapBlock sv' = some b
      · exact hN.lt b e2
      · rw [if_neg e2] at hb; exact absurd rfl hb
theorem RepV.apart {w : World} {T : Nat → Tag} {q : Nat} {m : M} {nv sv mv : Value} {nn ns : Nat} (R : RepV w T q m nv sv mv nn ns) :
    mapBlock nv ≠ some q ∧ mapBlock sv ≠ some q ∧ mv.ownBlock ≠ some q ∧ (∀ b, mapBlock nv = some b → mv.ownBlock ≠ some b) ∧ (∀ b, mapBlock sv = some b → mv.ownBlock ≠ some b) := by
  have hq := R.tq
  refine ⟨fun e => ?_, fun e => ?_, fun e => ?_, fun b h e => ?_, fun b h e => ?_⟩
  · rw [R.tn q e] at hq; cases hq
  · rw [R.ts q e] at hq; cases hq
  · rw [R.tm q e] at hq; cases hq
  · have := R.tn b h; rw [R.tm b e] at this; cases this
  · have := R.ts b h; rw [R.tm b e] at this; cases this
theorem settle_rep (w : World) (T : Nat → Tag) (q : Nat) (m : M) (nv sv mv : Value) (nn ns k : Nat) (R : RepV w T q m nv sv mv nn ns) (hd : m.done < 1000000000) (hk : k ≤ m.moves.length) :
    Calls Tryz.prog 46 #[.pointer (some ⟨q, 0, none⟩), .int .i64 (k : Int)] w fun e w' => e = .returned (.tuple #[]) ∧ ∃ T' sv', RepV w' T' q {m with safe := ages m.safe (m.moves.take k), moves := [], gone := 0} nv sv' (.slice none 0 0) nn (ns + k) ∧ Ext w T w' T' := by
  obtain ⟨a1, a2, a3, a4, a5⟩ := R.apart
  have hbns := R.bns
  refine (settle_any w q m nv sv mv ns k R.sh R.sf R.mo hk (by omega) (by omega) (fun v hv => ?_) a2 a3 a5).mono ?_
  · have := (R.lmov v hv).2; omega
  · rintro e w' ⟨rfl, sv', h1, h2, h3, h4⟩
    refine ⟨rfl, _, sv', R.settle_step hk rfl h1 h2 h3 h4, h4.ext ?_ (fun b hb => if_pos hb)⟩
    rintro i _ (rfl | h)
    · exact tag_ne R.tq (by intro h; cases h)
    · exact tag_ne (R.ts _ h) (by intro h; cases h)
theorem mv_form {w : World} {mv : Value} {l : List Mv} (h : MvAt w mv l) : ∃ A c, mv = .slice A l.length c := by
  rcases h.2 with ⟨rfl, h0⟩ | ⟨g, cap, cur, rfl, _⟩
  · exact ⟨none, 0, by rw [h0]⟩
  · exact ⟨_, cap, rfl⟩
set_option maxRecDepth 4000 in
theorem names_rep (w : World) (T : Nat → Tag) (q : Nat) (m : M) (R : Rep w T q m) (hd : m.done < 100000000) :
    Calls Tryz.prog 15 #[.pointer (some ⟨q, 0, none⟩)] w fun e w' => e = .returned (.int .i64 (m.actE : Int)) ∧ ∃ T', Rep w' T' q m.names ∧ Ext w T w' T' := by
  have c32 := act_rep w T q m R (by omega)
  have hFn := R.2.names
  rcases actE_cases m with h | h
  · rw [show m.names = {m.act with safe := ages m.safe m.moves, moves := [], gone := 0} by simp [M.names, h]] at hFn ⊢
    rw [h] at c32 ⊢
    have hd' := (act_done m).2.1
    obtain ⟨e1, e2, e3, _⟩ := act_now m
    have HE := Lib.hid (And.intro e2 e3)
    have HF := Lib.hid hFn
    have HD := Lib.hid hd'
    clear h hFn R e1 e2 e3 hd'
    go_enter Tryz.func15, Tryz.ntmps15
    go_wp2_with (first
      | (go_at_call 45; refine c32.mono ?_; rintro e w' ⟨rfl, R', X⟩; obtain ⟨⟨nv, sv, mv, nn, ns, RV⟩, F'⟩ := R'; obtain ⟨A, c, rfl⟩ := mv_form RV.mo; have y3 : w'.cell? ⟨q, 3, none⟩ = some (.slice A m.act.moves.length c) := RV.sh.cell 3; have cs := settle_rep w' T q m.act _ _ _ _ _ m.act.moves.length RV (by have := HD.out; omega) (Nat.le_refl _))
      | (go_at_call 46; refine cs.mono ?_; rintro e w2 ⟨rfl, T', sv', RV2, X2⟩))
    go_ret
    rw [List.take_length, HE.out.1, HE.out.2] at RV2
    exact ⟨rfl, T', ⟨⟨_, _, _, _, _, RV2⟩, HF.out⟩, X.trans X2⟩
  · rw [show m.names = m.act by simp [M.names, h]]
    rw [h] at c32 ⊢
    clear h hFn R
    go_enter Tryz.func15, Tryz.ntmps15
    go_wp2_with (first | (go_at_call 45; refine c32.mono ?_; rintro e w' ⟨rfl, R', X⟩))
    go_ret
    exact ⟨rfl, _, R', X⟩
theorem do_rep (w : World) (T : Nat → Tag) (q : Nat) (m : M) (nv sv mv : Value) (nn ns : Nat) (v : Mv) (R : RepV w T q m nv sv mv nn ns) (hd : m.done < 100000000) (hf : ∀ b, v.f = some b → T b = .file) (hl : v.fr.length ≤ 1000 ∧ v.to.length ≤ 1000) (hbn : nn < m.done) (hbs : ns + m.moves.length < m.done) :
    Calls Tryz.prog 65 #[.pointer (some ⟨q, 0, none⟩), mvV v] w fun e w' => e = .returned (.tuple #[]) ∧ ∃ T' nv' mv' nn', RepV w' T' q (m.mv v) nv' sv mv' nn' ns ∧ Ext w T w' T' := by
  obtain ⟨a1, a2, a3, a4, a5⟩ := R.apart
  have hbns := R.bns
  have hbnn := R.bnn
  refine (do_mv w q m nv sv mv nn v R.sh R.nm R.mo (by omega) (by omega) (by omega) a1 a3 a4 (by omega)).mono ?_
  rintro e w' ⟨rfl, nb, mv', h1, h2, h3, h4, h5, h6, h7⟩
  refine ⟨rfl, _, _, _, _, R.do_step h1 h2 h3 h4 h5 h6 h7 hf hl hbn hbs, h7.ext ?_ (fun b hb => if_pos hb)⟩
  rintro i _ (rfl | h | h)
  · exact tag_ne R.tq (by intro h; cases h)
  · exact tag_ne (R.tn _ h) (by intro h; cases h)
  · exact tag_ne (R.tm _ h) (by intro h; cases h)
theorem RepV.more {w : World} {T : Nat → Tag} {q : Nat} {m : M} {nv sv mv : Value} {nn ns : Nat} (R : RepV w T q m nv sv mv nn ns) (h : m.actE = 0) {w' : World} (hc : Chg w w' (fun k => k = q)) (hS : ShAt w' q m.act nv sv mv) : RepV w' T q m.act nv sv mv nn ns ∧ nn < m.act.done ∧ ns + m.act.moves.length < m.act.done := by
  obtain ⟨e1, e2, e3, e4, _⟩ := act_now m
  have hd := (act_done m).2.2 h
  have := R.bnn
  have := R.bns
  exact ⟨R.sh_step hc hS ⟨e1, e2, e3, e4⟩ (act_done m).1, by omega, by rw [e3]; omega⟩
theorem act_more (w : World) (T : Nat → Tag) (q : Nat) (m : M) (R : Rep w T q m) (hd : m.done < 1000000000) :
    Calls Tryz.prog 45 #[.pointer (some ⟨q, 0, none⟩)] w fun e w' => e = .returned (.int .i64 (m.actE : Int)) ∧ (∃ nv sv mv nn ns, RepV w' T q m.act nv sv mv nn ns ∧ (m.actE = 0 → nn < m.act.done ∧ ns + m.act.moves.length < m.act.done)) ∧ Ext w T w' T := by
  obtain ⟨⟨nv, sv, mv, nn, ns, R⟩, F⟩ := R
  refine (act_any w q m nv sv mv R.sh (by omega) F.ahead).mono ?_
  rintro e w' ⟨rfl, h1, h2⟩
  obtain ⟨e1, e2, e3, e4, _⟩ := act_now m
  have hX : Ext w T w' T := (chg_of_grown h2).ext (fun k _ e => by rw [e]; exact tag_ne R.tq (by intro h; cases h)) (fun _ _ => rfl)
  refine ⟨rfl, ⟨nv, sv, mv, nn, ns, R.sh_step (chg_of_grown h2) h1 ⟨e1, e2, e3, e4⟩ (act_done m).1, fun h => (R.more h (chg_of_grown h2) h1).2⟩, hX⟩
theorem below_chg {w w' : World} (h : Below w.heap.size w w') : Chg w w' (fun _ => False) := ⟨h.os, h.tape, h.output, h.size, fun k hk _ => h.block k hk⟩
theorem below_ext {w w' : World} (h : Below w.heap.size w w') (T : Nat → Tag) : Ext w T w' T := (below_chg h).ext (fun _ _ h => h.elim) (fun _ _ => rfl)
theorem Rep.below {w w' : World} {T : Nat → Tag} {q : Nat} {m : M} (R : Rep w T q m) (h : Below w.heap.size w w') : Rep w' T q m := R.far (below_chg h) (fun _ _ h => h)
theorem create_do (w : World) (T : Nat → Tag) (q : Nat) (m : M) (nv sv mv : Value) (nn ns : Nat) (name : S) (R : RepV w T q m nv sv mv nn ns) (hd : m.done < 100000000) (hl : name.length ≤ 1000) (h : nn < m.done ∧ ns + m.moves.length < m.done) :
    Calls Tryz.prog 65 #[.pointer (some ⟨q, 0, none⟩), .agg #[.string (str []), .string (str name), .pointer (some ⟨w.heap.size, 0, none⟩)]] (w.alloc (.cells #[.slice none 0 0, .int .i64 0] 88)) fun e w' => e = .returned (.tuple #[]) ∧ ∃ T' nv' mv' nn', RepV w' T' q ((m.file w.heap.size ([], 0)).mv ⟨[], name, some w.heap.size⟩) nv' sv mv' nn' ns ∧ Ext w T w' T' := by
  have R2 := R.file_step
  refine (do_rep _ _ q _ nv sv mv nn ns ⟨[], name, some w.heap.size⟩ R2 hd (fun b hb => by injection hb with hb; simp [hb]) ⟨by simp, hl⟩ h.1 h.2).mono ?_
  rintro e w' ⟨rfl, T', nv', mv', nn', RV, X⟩
  refine ⟨rfl, T', nv', mv', nn', RV, Ext.trans (b := w.alloc (.cells #[.slice none 0 0, .int .i64 0] 88)) ((chg_alloc w _ (fun _ => False)).ext (fun _ _ h => h.elim) (fun b hb => if_neg (by omega))) X⟩
set_option maxRecDepth 4000 in
theorem create_rep (w : World) (T : Nat → Tag) (q : Nat) (m : M) (name : S) (R : Rep w T q m) (hd : m.done < 10000000) (hl : name.length ≤ 1000) :
    Calls Tryz.prog 34 #[.pointer (some ⟨q, 0, none⟩), .string (str name)] w fun e w' => e = .returned (.int .i64 (m.createE name : Int)) ∧ ∃ T' b, Rep w' T' q (m.create name b) ∧ Ext w T w' T' ∧ w.heap.size ≤ b := by
  have c27 := name_any w name (by omega)
  have cA := fun (V : World) (hB : Below w.heap.size w V) => act_more V T q m (R.below hB) (by omega)
  obtain ⟨nm, hnm⟩ : ∃ nm, nm = str name := ⟨_, rfl⟩
  rw [← hnm] at c27 ⊢
  cases hok : nameOk name with
  | false =>
    rw [hok] at c27
    have hC : ∀ b, m.create name b = m := fun b => by simp [M.create, hok]
    rw [show m.createE name = 1 by simp [M.createE, hok]]
    have HR := Lib.hid (And.intro R hC)
    clear cA R hC hnm hok
    go_enter Tryz.func34, Tryz.ntmps34
    go_wp2_with (first | (go_at_call 64; refine c27.mono ?_; rintro e w1 ⟨rfl, B1⟩))
    go_ret
    exact ⟨rfl, T, w.heap.size, by rw [HR.out.2]; exact HR.out.1.below B1, below_ext B1 T, Nat.le_refl _⟩
  | true =>
    rw [hok] at c27
    rcases actE_cases m with hE | hE
    · have HL : ∀ w' nv sv mv nn ns, RepV w' T q m.act nv sv mv nn ns → (Instr.lookup 76 nv (.string nm) false).run Tryz.prog w' = .ok (ptrV (get m.now name)) w' ∧ w'.cell? ⟨q, 1, none⟩ = some nv := fun w' nv sv mv nn ns R => by
        have h := R.nm.look (s := name) (by omega)
        rw [(act_now m).1, ← hnm] at h
        exact ⟨h, R.sh.cell 1⟩
      rw [hE] at cA
      cases hg : get m.now name with
      | some c =>
        rw [hg] at HL
        simp only [ptrV] at HL
        have hC : ∀ b, m.create name b = m.act := fun b => by simp [M.create, hok, hE, hg]
        rw [show m.createE name = 9 by simp [M.createE, hok, hE, hg]]
        have HR := Lib.hid (And.intro R.2.act hC)
        have HL := Lib.hid HL
        have HA := Lib.hid cA
        clear R hC hnm hok hg cA hE
        go_enter Tryz.func34, Tryz.ntmps34
        go_wp2_with (first
          | (go_at_call 64; refine c27.mono ?_; rintro e w1 ⟨rfl, B1⟩; have ca := HA.out w1 B1)
          | (go_at_call 45; refine ca.mono ?_; rintro e w2 ⟨rfl, ⟨nv, sv, mv, nn, ns, RV, _⟩, X2⟩; obtain ⟨y1, y2⟩ := HL.out _ _ _ _ _ _ RV))
        go_ret
        exact ⟨rfl, T, w.heap.size, by rw [HR.out.2]; exact ⟨⟨_, _, _, _, _, RV⟩, HR.out.1⟩, (below_ext B1 T).trans X2, Nat.le_refl _⟩
      | none =>
        rw [hg] at HL
        simp only [ptrV] at HL
        have hC : ∀ b, m.create name b = (m.act.file b ([], 0)).mv ⟨[], name, some b⟩ := fun b => by simp [M.create, hok, hE, hg]
        have hFn : ∀ b, w.heap.size ≤ b → Fine (m.create name b) := fun b hb => R.2.create name b (fun k _ hs => by
          obtain ⟨⟨nv, sv, mv, nn, ns, RV⟩, _⟩ := R
          have h1 := RV.live k hs
          have := RV.old b (tag_ne h1 (by intro h; cases h))
          omega)
        have hdd := (act_done m).2.1
        rw [show m.createE name = 0 by simp [M.createE, hok, hE, hg]]
        have HR := Lib.hid (And.intro hFn hC)
        have HL := Lib.hid HL
        have HA := Lib.hid cA
        have HN := Lib.hid hnm
        clear R hC hFn hok hg cA hE hnm
        go_enter Tryz.func34, Tryz.ntmps34
        go_wp2_with (first
          | (go_at_call 64; refine c27.mono ?_; rintro e w1 ⟨rfl, B1⟩; have ca := HA.out w1 B1)
          | (go_at_call 45; refine ca.mono ?_; rintro e w2 ⟨rfl, ⟨nv, sv, mv, nn, ns, RV, hmore⟩, X2⟩; obtain ⟨y1, y2⟩ := HL.out _ _ _ _ _ _ RV; have cd := create_do w2 T q m.act nv sv mv nn ns name RV (by omega) hl (hmore trivial); rw [← HN.out] at cd)
          | (go_at_call 65; refine cd.mono ?_; rintro e w3 ⟨rfl, T', nv', mv', nn', RV3, X3⟩))
        go_ret
        have hsz : w.heap.size ≤ w2.heap.size := Nat.le_trans B1.size X2.size
        exact ⟨rfl, T', w2.heap.size, ⟨⟨_, _, _, _, _, by rw [HR.out.2]; exact RV3⟩, HR.out.1 _ hsz⟩, ((below_ext B1 T).trans X2).trans X3, hsz⟩
    · rw [hE] at cA
      have hC : ∀ b, m.create name b = m.act := fun b => by simp [M.create, hok, hE]
      rw [show m.createE name = 7 by simp [M.createE, hok, hE]]
      have HR := Lib.hid (And.intro R.2.act hC)
      have HA := Lib.hid cA
      clear R hC hnm hok cA hE
      go_enter Tryz.func34, Tryz.ntmps34
      go_wp2_with (first
        | (go_at_call 64; refine c27.mono ?_; rintro e w1 ⟨rfl, B1⟩; have ca := HA.out w1 B1)
        | (go_at_call 45; refine ca.mono ?_; rintro e w2 ⟨rfl, ⟨nv, sv, mv, nn, ns, RV, _⟩, X2⟩))
      go_ret
      exact ⟨rfl, T, w.heap.size, by rw [HR.out.2]; exact ⟨⟨_, _, _, _, _, RV⟩, HR.out.1⟩, (below_ext B1 T).trans X2, Nat.le_refl _⟩
end Go.Proofs.YtdbhgkbmbbjpdaaGreatDoor.Shf
