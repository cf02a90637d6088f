/- What a shelf's acts do in memory: Append, Cut, Read. -/
import Derived.Test.YtkalgonkaoiapaaShs
namespace Go.Proofs.Ytkalgonkaoiapaa.Shf
open Go.ChangeShapes Go.WideShapes Go.ChangeAt Go.RowKit

theorem own_app {w : World} {ops : Array Oper} {rest : List Oper} {o : Oper} {a : Act} {Q : Exit → Act → World → Prop} (hgd : o.guard = none) (s x : Operand)
    (ho : o.op = .call { callee := .builtin .append, args := #[s, x], argTypes := #[22, 22] }) (v : Value) (l r : List UInt8) (A : Option Addr) (n c : Nat) (hs : a.eval s = v) (hx : a.eval x = .slice A n c) (hn : n = r.length) (hown : Own w v l) (hr : Rd w A r) (hA : A = none → c = 0) (hlen : l.length + r.length ≤ 100000000000)
    (h : ∀ A' k c' w', Hid (k = (l ++ r).length) → Own w' (.slice A' k c') (l ++ r) → w.grownBy w' v.ownBlock → ((Value.slice A' k c').ownBlock = v.ownBlock ∨ (Value.slice A' k c').ownBlock = some w.heap.size) → wpList Try.prog ops Q rest (a.put o.dst (.slice A' k c')) w') : wpList Try.prog ops Q (o :: rest) a w := by
  refine wpList_plain hgd fun K hK => ?_
  subst hn
  obtain ⟨v', w', hr', h2, h3, h4⟩ := hown.app o.type hr hA hlen
  unfold Oper.wp execOp
  simp only [ho, resolve, invoke, builtin, Sem.run_bind, Sem.run_pure, Result.andThen_ok, List.map_toArray, List.map_cons, List.map_nil, hs, hx, hr']
  obtain ⟨A', c', e, _, _, _, _⟩ := h2.form
  subst e
  exact hK _ _ (h A' _ c' w' rfl h2 h3 h4)
/-- Bytes that came in: they lie in blocks that aren't the shelf's. -/
def RdN (w : World) (T : Nat → Tag) (A : Option Addr) (l : List UInt8) : Prop := Rd w A l ∧ (0 < l.length → ∀ ad, A = some ad → T ad.block = .none ∧ ad.block < w.heap.size)
theorem Rd.at {w w' : World} {A : Option Addr} {l : List UInt8} (h : Rd w A l) (hb : ∀ ad, A = some ad → 0 < l.length → w'.heap[ad.block]? = w.heap[ad.block]?) : Rd w' A l := fun h0 => by
  obtain ⟨ad, e, hc⟩ := h h0
  exact ⟨ad, e, fun j hj => (World.cell?_of_block (a := ad.add j) (by rw [block_add]; exact hb ad e h0)).trans (hc j hj)⟩
theorem RdN.ext {w w' : World} {T T' : Nat → Tag} {A : Option Addr} {l : List UInt8} (h : RdN w T A l) (X : Ext w T w' T') : RdN w' T' A l :=
  ⟨h.1.at (fun ad e h0 => X.block ad.block (h.2 h0 ad e).2 (h.2 h0 ad e).1), fun h0 ad e => ⟨(X.tags _ (h.2 h0 ad e).2).trans (h.2 h0 ad e).1, Nat.lt_of_lt_of_le (h.2 h0 ad e).2 X.size⟩⟩
theorem used_q (w : World) (q : Nat) (m : M) (nv sv mv : Value) (h : ShAt w q m nv sv mv) (hb : m.named + m.gone ≤ 1000000000000) (n : Nat) : Calls Try.prog 30 #[.pointer (some ⟨q, 0, none⟩)] (w.drewN n) fun e w' => e = .returned (.int .i64 ((m.named + m.gone : Nat) : Int)) ∧ ∃ k, w' = w.drewN k :=
  (used_any (w.drewN n) q m nv sv mv h hb).mono fun _ _ ⟨he, k, hk⟩ => ⟨he, n + k, by rw [hk]; simp only [World.drewN, Nat.add_assoc]⟩
theorem chg_drewN {a b : World} {R : Nat → Prop} (h : Chg a b R) (n : Nat) : Chg a (b.drewN n) R := ⟨h.os, h.tape, h.output, h.size, h.block⟩
theorem app_cells {w w3 : World} {q b : Nat} {m : M} {nv sv mv v : Value} {s : Nat} (C : Chg w w3 (fun k => v.ownBlock = some k)) (hS : ShAt w q m nv sv mv) (hF : FlAt w b v s) (h1 : v.ownBlock ≠ some q) (h2 : v.ownBlock ≠ some b) :
    w3.cell? ⟨q, 4, none⟩ = some (.int .i64 (m.named : Int)) ∧ w3.frozen? ⟨q, 4, none⟩ = false ∧ w3.cell? ⟨b, 0, none⟩ = some v ∧ w3.frozen? ⟨b, 0, none⟩ = false :=
  ⟨(hS.at C h1).cell 4, (hS.at C h1).fz 4, (hF.at C h2).cell0, (hF.at C h2).fz 0⟩
set_option maxRecDepth 4000 in
theorem append_rep (w : World) (T : Nat → Tag) (q : Nat) (m : M) (name p : S) (A : Option Addr) (c : Nat) (R : Rep w T q m) (hd : m.done < 1000000000) (hl : name.length ≤ 1000) (hp : RdN w T A p) (hA : A = none → c = 0) (hpl : p.length ≤ 1000000000) (hroom : -1000000000000 ≤ m.room) :
    Calls Try.prog 12 #[.pointer (some ⟨q, 0, none⟩), .string (str name), .slice A p.length c] w fun e w' => e = .returned (.int .i64 (m.appendE name p : Int)) ∧ ∃ T', Rep w' T' q (m.append name p) ∧ Ext w T w' T' := by
  have c34 := actOn_rep w T q m name R hd hl
  obtain ⟨nm, hnm⟩ : ∃ nm, nm = str name := ⟨_, rfl⟩
  rw [← hnm] at c34 ⊢
  obtain ⟨pl, hpl'⟩ : ∃ pl, pl = p.length := ⟨_, rfl⟩
  rw [← hpl']
  rcases onE_cases m name with ⟨h1, h2, h3⟩ | ⟨h1, h2, h3, h4⟩ | ⟨b, h1, h2, h3, h4⟩
  · rw [show m.appendE name p = 7 by simp [M.appendE, h1, h2]]
    rw [h1, h2] at c34
    rw [show m.append name p = m.act by simp [M.append, h2]]
    simp only [ptrV] at c34
    clear hnm h1 h2 h3 R hp hpl'
    go_enter Try.func12, Try.ntmps12
    go_wp2_with (first | (go_at_call 34; refine c34.mono ?_; rintro e w' ⟨rfl, R', X⟩))
    go_ret
    exact ⟨rfl, _, R', X⟩
  · rw [show m.appendE name p = 2 by simp [M.appendE, h1, h2]]
    rw [h1, h2] at c34
    rw [show m.append name p = m.act by simp [M.append, h2]]
    simp only [ptrV] at c34
    clear hnm h1 h2 h3 h4 R hp hpl'
    go_enter Try.func12, Try.ntmps12
    go_wp2_with (first | (go_at_call 34; refine c34.mono ?_; rintro e w' ⟨rfl, R', X⟩))
    go_ret
    exact ⟨rfl, _, R', X⟩
  · have hT := R.fileOf h4
    have hFn := R.2.append name p
    have hby := R.2.bytes
    have hrm := R.2.room
    have hle : (m.fl b).1.length ≤ m.named := by rw [R.2.named]; exact tot_le (mem_get h4)
    rw [h1, h2] at c34
    simp only [ptrV] at c34
    obtain ⟨e1, e2, e3, e4, e5, e6, e7⟩ := act_now m
    have hE := Lib.hid (And.intro e4 (And.intro e5 (And.intro e6 e7)))
    have HT := Lib.hid hT
    have HP := Lib.hid hp
    have HL := Lib.hid hpl'
    have hw1 : IntKind.i64.wrap (((m.named + m.gone : Nat) : Int) + (pl : Int)) = ((m.named + m.gone : Nat) : Int) + (pl : Int) := by rw [IntKind.wrap_i64] <;> omega
    by_cases hf : (m.named + m.gone + p.length : Int) > m.room
    · rw [show m.appendE name p = 3 by simp only [M.appendE, h2]; exact if_pos hf]
      rw [show m.append name p = m.act by simp only [M.append, h2]; exact if_pos hf] at hFn ⊢
      have hgt : m.room < ((m.named + m.gone : Nat) : Int) + (pl : Int) := by omega
      have HFn := Lib.hid hFn
      clear hnm h1 h2 h3 h4 R hT hFn hp hpl' hf e1 e2 e3 e4 e5 e6 e7
      generalize hmu : m.named + m.gone = mu at *
      have HU := Lib.hid hmu
      clear hmu
      go_enter Try.func12, Try.ntmps12
      go_wp2_with (first | (go_at_call 34; refine c34.mono ?_; rintro e w' ⟨rfl, R', X⟩; obtain ⟨⟨nv, sv, mv, nn, ns, RV⟩, F'⟩ := R'; have y0 : w'.cell? ⟨q, 0, none⟩ = some (.int .i64 m.room) := (RV.sh.cell 0).trans (by rw [← hE.out.2.2.2]; rfl); have cu := used_q w' q m.act nv sv mv RV.sh (by rw [hE.out.2.1, hE.out.2.2.1]; have := HU.out; omega); rw [hE.out.2.1, hE.out.2.2.1, HU.out] at cu))
      go_quiet ((go_at_call 30; exact cu _))
      go_wp2
      go_ret
      exact ⟨rfl, _, ⟨⟨_, _, _, _, _, RV.far (chg_drewN (Chg.refl w' (fun _ => False)) _) (fun _ _ h => h)⟩, F'⟩, X.trans ((chg_drewN (Chg.refl w' (fun _ => False)) _).ext (fun _ _ h => h.elim) (fun _ _ => rfl))⟩
    · rw [show m.appendE name p = 0 by simp only [M.appendE, h2]; exact if_neg hf]
      have hAP : m.append name p = {m.act with fl := fun c => if c = b then ((m.fl b).1 ++ p, (m.fl b).2) else m.fl c, named := m.named + p.length} := by simp only [M.append, h2]; exact if_neg hf
      have HFn := Lib.hid hFn
      have hgt : ¬ m.room < ((m.named + m.gone : Nat) : Int) + (pl : Int) := by omega
      have hw2 : IntKind.i64.wrap ((m.named : Int) + (pl : Int)) = ((m.named + pl : Nat) : Int) := by rw [IntKind.wrap_i64] <;> omega
      have hlen : (m.fl b).1.length + p.length ≤ 100000000000 := by omega
      have HAP := Lib.hid hAP
      have HLE := Lib.hid hlen
      clear hnm h1 h2 h3 h4 R hT hFn hp hpl' hf e1 e2 e3 e4 e5 e6 e7 hAP hlen hle
      generalize hmu : m.named + m.gone = mu at *
      have HU := Lib.hid hmu
      clear hmu
      go_enter Try.func12, Try.ntmps12
      go_wp2_with (first | (go_at_call 34; refine c34.mono ?_; rintro e w' ⟨rfl, R', X⟩; obtain ⟨⟨nv, sv, mv, nn, ns, RV⟩, F'⟩ := R'; have y0 : w'.cell? ⟨q, 0, none⟩ = some (.int .i64 m.room) := (RV.sh.cell 0).trans (by rw [← hE.out.2.2.2]; rfl); have cu := used_q w' q m.act nv sv mv RV.sh (by rw [hE.out.2.1, hE.out.2.2.1]; have := HU.out; omega); rw [hE.out.2.1, hE.out.2.2.1, HU.out] at cu))
      go_quiet ((go_at_call 30; exact cu _))
      have RV2 := RV.far (chg_drewN (Chg.refl w' (fun _ => False)) nq) (fun _ _ h => h)
      have X2 := X.trans ((chg_drewN (Chg.refl w' (fun _ => False)) nq).ext (T := T) (T' := T) (fun _ _ h => h.elim) (fun _ _ => rfl))
      clear cu y0 RV X c34
      generalize w'.drewN nq = wd at *
      obtain ⟨v, k1, k2, k3, k4⟩ := RV2.fl b HT.out
      rw [hE.out.1] at k1 k2 k4
      have P2 := HP.out.ext X2
      have y0 := k1.cell0
      have y4 : wd.cell? ⟨q, 4, none⟩ = some (.int .i64 (m.named : Int)) := (RV2.sh.cell 4).trans (by rw [← hE.out.2.1]; rfl)
      have z4 := RV2.sh.fz 4
      have hqb : q ≠ b := by intro e; have := RV2.tq; rw [e, HT.out] at this; cases this
      have HK1 := Lib.hid k1
      have HK2 := Lib.hid k2
      have HK3 := Lib.hid k3
      have HK4 := Lib.hid k4
      have HP2 := Lib.hid P2
      have HRV := Lib.hid RV2
      have hvb : v.ownBlock ≠ some b := by intro e; have := k3 b e; rw [HT.out] at this; cases this
      have hvq : v.ownBlock ≠ some q := by intro e; have := k3 q e; rw [RV2.tq] at this; cases this
      have hqs := RV2.sh.lt
      have hbs := k1.lt
      clear k1 k2 k3 k4 P2 RV2
      go_wp2_with (first | (at_builtin; refine own_app rfl _ _ rfl v (m.fl b).1 p A _ c rfl rfl HL.out HK2.out HP2.out.1 hA HLE.out ?_; intro A' ln c' w3 hln O3 G3 W3; have C3 := chg_grown G3; obtain ⟨q4, qf4, b0, bf0⟩ := app_cells C3 HRV.out.sh HK1.out hvq hvb; rw [hE.out.2.1] at q4) | go_in)
      go_ret
      have C4 : Chg wd (w3.setCell ⟨b, 0, none⟩ (.slice A' ln c')) (fun k => k = b ∨ v.ownBlock = some k) := (C3.wide (fun _ _ h => Or.inr h)).andThen (chg_set w3 b 0 _) (fun _ _ h => Or.inl h)
      have O4 : Own (w3.setCell ⟨b, 0, none⟩ (.slice A' ln c')) (.slice A' ln c') ((m.fl b).1 ++ p) := O3.at (chg_set w3 b 0 _) (fun g hg e => by
        rcases W3 with h | h
        · rw [h] at hg; exact hvb (by rw [hg, e])
        · rw [h] at hg; injection hg with hg; omega)
      have F4 : FlAt (w3.setCell ⟨b, 0, none⟩ (.slice A' ln c')) b (.slice A' ln c') (m.fl b).2 := (HK1.out.at C3 hvb).set0 _
      have RV4 := HRV.out.file_write (v := v) (v' := .slice A' ln c') (x := ((m.fl b).1 ++ p, (m.fl b).2)) HT.out HK3.out C4 F4 O4 (fun g hg => by
        rcases W3 with h | h
        · rw [h] at hg; exact Or.inl hg
        · rw [h] at hg; injection hg with hg; exact Or.inr (by omega)) (by have := HK4.out; simp only [List.length_append]; omega)
      have S5 := RV4.sh.set (m' := {m.act with fl := fun c => if c = b then ((m.fl b).1 ++ p, (m.fl b).2) else m.fl c, named := m.named + p.length}) (nv' := nv) (sv' := sv) (mv' := mv) 4 (.int .i64 ((m.named + pl : Nat) : Int)) (by rw [HL.out]; rfl)
      have C5 := chg_set (w3.setCell ⟨b, 0, none⟩ (.slice A' ln c')) q 4 (.int .i64 ((m.named + pl : Nat) : Int))
      have RV5 := RV4.sh_step C5 S5 ⟨rfl, rfl, rfl, by simp only [M.file]; rw [hE.out.1]⟩ (Nat.le_refl _)
      have C6 : Chg wd _ (fun k => (k = b ∨ v.ownBlock = some k) ∨ k = q) := (C4.wide (fun _ _ h => Or.inl h)).andThen C5 (fun _ _ h => Or.inr h)
      refine ⟨rfl, _, ⟨⟨_, _, _, _, _, by rw [HAP.out]; exact RV5⟩, HFn.out⟩, X2.trans (C6.ext ?_ (fun k hk => if_pos hk))⟩
      rintro k _ ((rfl | h) | rfl)
      · exact tag_ne HT.out (by intro h; cases h)
      · exact tag_ne (HK3.out k h) (by intro h; cases h)
      · exact tag_ne HRV.out.tq (by intro h; cases h)
set_option maxRecDepth 4000 in
theorem cut_rep (w : World) (T : Nat → Tag) (q : Nat) (m : M) (name : S) (n : Int) (R : Rep w T q m) (hd : m.done < 1000000000) (hl : name.length ≤ 1000) (hn : (Lit.int .i64 n).wf = true) :
    Calls Try.prog 25 #[.pointer (some ⟨q, 0, none⟩), .string (str name), .int .i64 n] w fun e w' => e = .returned (.int .i64 (m.cutE name n : Int)) ∧ ∃ T', Rep w' T' q (m.cut name n) ∧ Ext w T w' T' := by
  have c34 := actOn_rep w T q m name R hd hl
  obtain ⟨nm, hnm⟩ : ∃ nm, nm = str name := ⟨_, rfl⟩
  rw [← hnm] at c34 ⊢
  rcases onE_cases m name with ⟨h1, h2, h3⟩ | ⟨h1, h2, h3, h4⟩ | ⟨b, h1, h2, h3, h4⟩
  · rw [show m.cutE name n = 7 by simp [M.cutE, h1, h2]]
    rw [h1, h2] at c34
    rw [show m.cut name n = m.act by simp [M.cut, h2]]
    simp only [ptrV] at c34
    clear hnm h1 h2 h3 R
    go_enter Try.func25, Try.ntmps25
    go_wp2_with (first | (go_at_call 34; refine c34.mono ?_; rintro e w' ⟨rfl, R', X⟩))
    go_ret
    exact ⟨rfl, _, R', X⟩
  · rw [show m.cutE name n = 2 by simp [M.cutE, h1, h2]]
    rw [h1, h2] at c34
    rw [show m.cut name n = m.act by simp [M.cut, h2]]
    simp only [ptrV] at c34
    clear hnm h1 h2 h3 h4 R
    go_enter Try.func25, Try.ntmps25
    go_wp2_with (first | (go_at_call 34; refine c34.mono ?_; rintro e w' ⟨rfl, R', X⟩))
    go_ret
    exact ⟨rfl, _, R', X⟩
  · have hT := R.fileOf h4
    have hFn := R.2.cut name n
    have hby := R.2.bytes
    have hle : (m.fl b).1.length ≤ m.named := by rw [R.2.named]; exact tot_le (mem_get h4)
    rw [h1, h2] at c34
    simp only [ptrV] at c34
    obtain ⟨e1, e2, e3, e4, e5, e6, e7⟩ := act_now m
    have hE := Lib.hid (And.intro e4 (And.intro e5 (And.intro e6 e7)))
    have HT := Lib.hid hT
    obtain ⟨fl, hfl⟩ : ∃ fl, fl = (m.fl b).1.length := ⟨_, rfl⟩
    rw [← hfl] at hle
    have HL := Lib.hid hfl
    by_cases hneg : n < 0
    · rw [show m.cutE name n = 1 by simp only [M.cutE, h2]; exact if_pos (Or.inl hneg)]
      rw [show m.cut name n = m.act by simp only [M.cut, h2]; exact if_pos (Or.inl hneg)]
      clear hnm h1 h2 h3 h4 R hT hFn e1 e2 e3 e4 e5 e6 e7 hfl
      go_enter Try.func25, Try.ntmps25
      go_wp2_with (first | (go_at_call 34; refine c34.mono ?_; rintro e w' ⟨rfl, R', X⟩))
      go_ret
      exact ⟨rfl, _, R', X⟩
    · by_cases hbig : n > fl
      · rw [show m.cutE name n = 1 by simp only [M.cutE, h2]; exact if_pos (Or.inr (by omega))]
        rw [show m.cut name n = m.act by simp only [M.cut, h2]; exact if_pos (Or.inr (by omega))]
        clear hnm h1 h2 h3 h4 R hT hFn e1 e2 e3 e4 e5 e6 e7 hfl
        go_enter Try.func25, Try.ntmps25
        go_wp2_with (first | (go_at_call 34; refine c34.mono ?_; rintro e w' ⟨rfl, R', X⟩; obtain ⟨⟨nv, sv, mv, nn, ns, RV⟩, F'⟩ := R'; obtain ⟨v, k1, k2, k3, k4⟩ := RV.fl b HT.out; obtain ⟨A, c, hv, _, _, _, _⟩ := k2.form; rw [hE.out.1, ← HL.out] at hv; have y0 := k1.cell0; rw [hv] at y0))
        go_ret
        exact ⟨rfl, _, ⟨⟨_, _, _, _, _, RV⟩, F'⟩, X⟩
      · rw [show m.cutE name n = 0 by simp only [M.cutE, h2]; exact if_neg (by omega)]
        have hC : m.cut name n = {m.act with fl := fun c => if c = b then ((m.fl b).1.take n.toNat, n.toNat) else m.fl c, named := m.named - ((m.fl b).1.length - n.toNat)} := by simp only [M.cut, h2]; exact if_neg (by omega)
        obtain ⟨k, rfl⟩ : ∃ k : Nat, n = k := ⟨n.toNat, by omega⟩
        have HFn := Lib.hid hFn
        have HC := Lib.hid hC
        have hw1 : IntKind.i64.wrap ((fl : Int) - (k : Int)) = ((fl - k : Nat) : Int) := by rw [IntKind.wrap_i64] <;> omega
        have hw2 : IntKind.i64.wrap ((m.named : Int) - ((fl - k : Nat) : Int)) = ((m.named - (fl - k) : Nat) : Int) := by rw [IntKind.wrap_i64] <;> omega
        clear hnm h1 h2 h3 h4 R hT hFn e1 e2 e3 e4 e5 e6 e7 hfl hC
        go_enter Try.func25, Try.ntmps25
        go_wp2_with (first | (go_at_call 34; refine c34.mono ?_; rintro e w' ⟨rfl, R', X⟩; obtain ⟨⟨nv, sv, mv, nn, ns, RV⟩, F'⟩ := R'; obtain ⟨v, k1, k2, k3, k4⟩ := RV.fl b HT.out; obtain ⟨A, c, hv, _, _, _, _⟩ := k2.form; rw [hE.out.1, ← HL.out] at hv; have y0 := k1.cell0; rw [hv] at y0))
        refine wp_region_still_tail 14 (by kernel_rfl) (by kernel_rfl) ?_
        simp only [List.take_succ_cons, List.take_zero, List.drop_succ_cons, List.drop_zero]
        change wpStill _ _ w'.drew (fun a' => wpList _ _ _ _ a' w'.drew) _ _
        have RV2 := RV.far (chg_drewN (Chg.refl w' (fun _ => False)) 1) (fun _ _ h => h)
        have X2 := X.trans ((chg_drewN (Chg.refl w' (fun _ => False)) 1).ext (T := T) (T' := T) (fun _ _ h => h.elim) (fun _ _ => rfl))
        have y4 : w'.drew.cell? ⟨q, 4, none⟩ = some (.int .i64 (m.named : Int)) := (RV.sh.cell 4).trans (by rw [← hE.out.2.1]; rfl)
        have z4 : w'.drew.frozen? ⟨q, 4, none⟩ = false := RV.sh.fz 4
        have y0 : w'.drew.cell? ⟨b, 0, none⟩ = _ := y0
        have k1 : FlAt w'.drew b v _ := k1
        have k2 : Own w'.drew v _ := k2
        have hdr : w'.drewN 1 = w'.drew := rfl
        rw [hdr] at RV2 X2
        clear RV X hdr c34
        generalize w'.drew = wd at *
        repeat still_step
        refine wpStill_nil ?_
        have S5 := RV2.sh.set (m' := {m.act with named := m.named - (fl - k)}) (nv' := nv) (sv' := sv) (mv' := mv) 4 (.int .i64 ((m.named - (fl - k) : Nat) : Int)) rfl
        have C5 := chg_set wd q 4 (.int .i64 ((m.named - (fl - k) : Nat) : Int))
        have RV5 := RV2.sh_step C5 S5 ⟨rfl, rfl, rfl, rfl⟩ (Nat.le_refl _)
        have hqb : q ≠ b := by intro e; have := RV2.tq; rw [e, HT.out] at this; cases this
        have hvq : v.ownBlock ≠ some q := by intro e; have := k3 q e; rw [RV2.tq] at this; cases this
        have hvb : v.ownBlock ≠ some b := by intro e; have := k3 b e; rw [HT.out] at this; cases this
        have k1 := k1.at C5 (fun e => hqb e.symm)
        have k2 := k2.at C5 (fun g hg e => hvq (by rw [hg, e]))
        have c46 := keep_any _ b v _ _ k k1 k2 hvb (by rw [hE.out.1, ← HL.out]; omega)
        have HRV5 := Lib.hid RV5
        have HC5 := Lib.hid C5
        clear S5 RV5 C5 k1 k2 RV2
        generalize hW : (((m.named - (fl - k) : Nat) : Int)) = N at *
        have HW := Lib.hid hW
        clear hW
        go_wp2_with (first | (go_at_call 46; refine c46.mono ?_; rintro e w6 ⟨rfl, v', F6, O6, B6, G6⟩) | go_in)
        go_ret
        have C6 := chg_of_grown G6
        have RV6 := HRV5.out.file_write (v := v) (v' := v') (x := ((m.fl b).1.take k, k)) HT.out k3 (C6.wide (fun _ _ h => Or.inl h)) F6 (by rw [hE.out.1] at O6; exact O6) (fun g hg => Or.inl (by rw [← B6]; exact hg)) (by simp only [List.length_take, ← HL.out]; omega)
        have C7 : Chg wd w6 (fun i => i = q ∨ i = b) := (HC5.out.wide (fun _ _ h => Or.inl h)).andThen C6 (fun _ _ h => Or.inr h)
        refine ⟨rfl, _, ⟨⟨_, _, _, _, _, by rw [HC.out]; simp only [M.file, hE.out.1, HL.out] at RV6; exact RV6⟩, HFn.out⟩, X2.trans (C7.ext ?_ (fun i hi => if_pos (Nat.lt_of_lt_of_le hi HC5.out.size)))⟩
        rintro i _ (rfl | rfl)
        · exact tag_ne HRV5.out.tq (by intro h; cases h)
        · exact tag_ne HT.out (by intro h; cases h)
end Go.Proofs.Ytkalgonkaoiapaa.Shf
