/- What a shelf's acts do in memory: Append, Cut, Read. What is read of a shelf: Read; copies of bytes and of maps. How a shelf falls. -/
import Derived.Test.YtdbhgkbmbbjpdaaGreatDoorShs
import Derived.Ground.SlmcProg
import Derived.Shelf.Lay
import Derived.WalkSpells
import Derived.Shelf.SlMaps.Clone
import Derived.Test.YtdbhgkbmbbjpdaaGreatDoorShu
import Derived.Laws.IdiomRangeMap
namespace Go.Proofs.YtdbhgkbmbbjpdaaGreatDoor.Shf
open Go.ChangeShapes Go.WideShapes Go.ChangeAt Go.RowKit
theorem own_app {w : World} {ops : Array Oper} {rest : List Oper} {o : Oper} {a : Act} {Q : Exit → Act → World → Prop} (hgd : o.guard = none) (s x : Operand)
    (ho : o.op = .call { callee := .builtin .append, args := #[s, x], argTypes := #[30, 30] }) (v : Value) (l r : List UInt8) (A : Option Addr) (n c : Nat) (hs : a.eval s = v) (hx : a.eval x = .slice A n c) (hn : n = r.length) (hown : Own w v l) (hr : Rd w A r) (hA : A = none → c = 0) (hlen : l.length + r.length ≤ 100000000000)
    (h : ∀ A' k c' w', Hid (k = (l ++ r).length) → Own w' (.slice A' k c') (l ++ r) → w.grownBy w' v.ownBlock → ((Value.slice A' k c').ownBlock = v.ownBlock ∨ (Value.slice A' k c').ownBlock = some w.heap.size) → wpList Tryz.prog ops Q rest (a.put o.dst (.slice A' k c')) w') : wpList Tryz.prog ops Q (o :: rest) a w := by
  refine wpList_plain hgd fun K hK => ?_
  subst hn
  obtain ⟨v', w', hr', h2, h3, h4⟩ := hown.app o.type hr hA hlen
  unfold Oper.wp execOp
  simp only [ho, resolve, invoke, builtin, Sem.run_bind, Sem.run_pure, Result.andThen_ok, List.map_toArray, List.map_cons, List.map_nil, hs, hx, hr']
  obtain ⟨A', c', e, _, _, _, _⟩ := h2.form
  subst e
  exact hK _ _ (h A' _ c' w' rfl h2 h3 h4)
def RdN (w : World) (T : Nat → Tag) (A : Option Addr) (l : List UInt8) : Prop := Rd w A l ∧ (0 < l.length → ∀ ad, A = some ad → T ad.block = .none ∧ ad.block < w.heap.size)
theorem Rd.at {w w' : World} {A : Option Addr} {l : List UInt8} (h : Rd w A l) (hb : ∀ ad, A = some ad → 0 < l.length → w'.heap[ad.block]? = w.heap[ad.block]?) : Rd w' A l := fun h0 => by
  obtain ⟨ad, e, hc⟩ := h h0
  exact ⟨ad, e, fun j hj => (World.cell?_of_block (a := ad.add j) (by rw [block_add]; exact hb ad e h0)).trans (hc j hj)⟩
theorem RdN.ext {w w' : World} {T T' : Nat → Tag} {A : Option Addr} {l : List UInt8} (h : RdN w T A l) (X : Ext w T w' T') : RdN w' T' A l :=
  ⟨h.1.at (fun ad e h0 => X.block ad.block (h.2 h0 ad e).2 (h.2 h0 ad e).1), fun h0 ad e => ⟨(X.tags _ (h.2 h0 ad e).2).trans (h.2 h0 ad e).1, Nat.lt_of_lt_of_le (h.2 h0 ad e).2 X.size⟩⟩
theorem used_q (w : World) (q : Nat) (m : M) (nv sv mv : Value) (h : ShAt w q m nv sv mv) (hb : m.named + m.gone ≤ 1000000000000) (n : Nat) : Calls Tryz.prog 67 #[.pointer (some ⟨q, 0, none⟩)] (w.drewN n) fun e w' => e = .returned (.int .i64 ((m.named + m.gone : Nat) : Int)) ∧ ∃ k, w' = w.drewN k :=
  (used_any (w.drewN n) q m nv sv mv h hb).mono fun _ _ ⟨he, k, hk⟩ => ⟨he, n + k, by rw [hk]; simp only [World.drewN, Nat.add_assoc]⟩
theorem chg_drewN {a b : World} {R : Nat → Prop} (h : Chg a b R) (n : Nat) : Chg a (b.drewN n) R := ⟨h.os, h.tape, h.output, h.size, h.block⟩
theorem app_cells {w w3 : World} {q b : Nat} {m : M} {nv sv mv v : Value} {s : Nat} (C : Chg w w3 (fun k => v.ownBlock = some k)) (hS : ShAt w q m nv sv mv) (hF : FlAt w b v s) (h1 : v.ownBlock ≠ some q) (h2 : v.ownBlock ≠ some b) :
    w3.cell? ⟨q, 4, none⟩ = some (.int .i64 (m.named : Int)) ∧ w3.frozen? ⟨q, 4, none⟩ = false ∧ w3.cell? ⟨b, 0, none⟩ = some v ∧ w3.frozen? ⟨b, 0, none⟩ = false :=
  ⟨(hS.at C h1).cell 4, (hS.at C h1).fz 4, (hF.at C h2).cell0, (hF.at C h2).fz 0⟩
set_option maxRecDepth 4000 in
theorem append_rep (w : World) (T : Nat → Tag) (q : Nat) (m : M) (name p : S) (A : Option Addr) (c : Nat) (R : Rep w T q m) (hd : m.done < 1000000000) (hl : name.length ≤ 1000) (hp : RdN w T A p) (hA : A = none → c = 0) (hpl : p.length ≤ 1000000000) (hroom : -1000000000000 ≤ m.room) :
    Calls Tryz.prog 35 #[.pointer (some ⟨q, 0, none⟩), .string (str name), .slice A p.length c] w fun e w' => e = .returned (.int .i64 (m.appendE name p : Int)) ∧ ∃ T', Rep w' T' q (m.append name p) ∧ Ext w T w' T' := by
  have c34 := actOn_rep w T q m name R hd hl
  obtain ⟨nm, hnm⟩ : ∃ nm, nm = str name := ⟨_, rfl⟩
  rw [← hnm] at c34 ⊢
  obtain ⟨pl, hpl'⟩ : ∃ pl, pl = p.length := ⟨_, rfl⟩
  rw [← hpl']
  rcases onE_cases m name with ⟨h1, h2, h3⟩ | ⟨h1, h2, h3, h4⟩ | ⟨b, h1, h2, h3, h4⟩
  · rw [show m.appendE name p = 7 by simp [M.appendE, h1, h2]]
    rw [h1, h2] at c34
    rw [show m.append name p = m.act by simp [M.append, h2]]
    simp only [ptrV] at c34
    clear hnm h1 h2 h3 R hp hpl'
    go_enter Tryz.func35, Tryz.ntmps35
    go_wp2_with (first | (go_at_call 66; refine c34.mono ?_; rintro e w' ⟨rfl, R', X⟩))
    go_ret
    exact ⟨rfl, _, R', X⟩
  · rw [show m.appendE name p = 2 by simp [M.appendE, h1, h2]]
    rw [h1, h2] at c34
    rw [show m.append name p = m.act by simp [M.append, h2]]
    simp only [ptrV] at c34
    clear hnm h1 h2 h3 h4 R hp hpl'
    go_enter Tryz.func35, Tryz.ntmps35
    go_wp2_with (first | (go_at_call 66; refine c34.mono ?_; rintro e w' ⟨rfl, R', X⟩))
    go_ret
    exact ⟨rfl, _, R', X⟩
  · have hT := R.fileOf h4
    have hFn := R.2.append name p
    have hby := R.2.bytes
    have hrm := R.2.room
    have hle : (m.fl b).1.length ≤ m.named := by rw [R.2.named]; exact tot_le (mem_get h4)
    rw [h1, h2] at c34
    simp only [ptrV] at c34
    obtain ⟨e1, e2, e3, e4, e5, e6, e7⟩ := act_now m
    have hE := Lib.hid (And.intro e4 (And.intro e5 (And.intro e6 e7)))
    have HT := Lib.hid hT
    have HP := Lib.hid hp
    have HL := Lib.hid hpl'
    have hw1 : IntKind.i64.wrap (((m.named + m.gone : Nat) : Int) + (pl : Int)) = ((m.named + m.gone : Nat) : Int) + (pl : Int) := by rw [IntKind.wrap_i64] <;> omega
    by_cases hf : (m.named + m.gone + p.length : Int) > m.room
    · rw [show m.appendE name p = 3 by simp only [M.appendE, h2]; exact if_pos hf]
      rw [show m.append name p = m.act by simp only [M.append, h2]; exact if_pos hf] at hFn ⊢
      have hgt : m.room < ((m.named + m.gone : Nat) : Int) + (pl : Int) := by omega
      have HFn := Lib.hid hFn
      clear hnm h1 h2 h3 h4 R hT hFn hp hpl' hf e1 e2 e3 e4 e5 e6 e7
      generalize hmu : m.named + m.gone = mu at *
      have HU := Lib.hid hmu
      clear hmu
      go_enter Tryz.func35, Tryz.ntmps35
      go_wp2_with (first | (go_at_call 66; refine c34.mono ?_; rintro e w' ⟨rfl, R', X⟩; obtain ⟨⟨nv, sv, mv, nn, ns, RV⟩, F'⟩ := R'; have y0 : w'.cell? ⟨q, 0, none⟩ = some (.int .i64 m.room) := (RV.sh.cell 0).trans (by rw [← hE.out.2.2.2]; rfl); have cu := used_q w' q m.act nv sv mv RV.sh (by rw [hE.out.2.1, hE.out.2.2.1]; have := HU.out; omega); rw [hE.out.2.1, hE.out.2.2.1, HU.out] at cu))
      go_quiet ((go_at_call 67; exact cu _))
      go_wp2
      go_ret
      exact ⟨rfl, _, ⟨⟨_, _, _, _, _, RV.far (chg_drewN (Chg.refl w' (fun _ => False)) _) (fun _ _ h => h)⟩, F'⟩, X.trans ((chg_drewN (Chg.refl w' (fun _ => False)) _).ext (fun _ _ h => h.elim) (fun _ _ => rfl))⟩
    · rw [show m.appendE name p = 0 by simp only [M.appendE, h2]; exact if_neg hf]
      have hAP : m.append name p = {m.act with fl := fun c => if c = b then ((m.fl b).1 ++ p, (m.fl b).2) else m.fl c, named := m.named + p.length} := by simp only [M.append, h2]; exact if_neg hf
      have HFn := Lib.hid hFn
      have hgt : ¬ m.room < ((m.named + m.gone : Nat) : Int) + (pl : Int) := by omega
      have hw2 : IntKind.i64.wrap ((m.named : Int) + (pl : Int)) = ((m.named + pl : Nat) : Int) := by rw [IntKind.wrap_i64] <;> omega
      have hlen : (m.fl b).1.length + p.length ≤ 100000000000 := by omega
      have HAP := Lib.hid hAP
      have HLE := Lib.hid hlen
      clear hnm h1 h2 h3 h4 R hT hFn hp hpl' hf e1 e2 e3 e4 e5 e6 e7 hAP hlen hle
      generalize hmu : m.named + m.gone = mu at *
      have HU := Lib.hid hmu
      clear hmu
      go_enter Tryz.func35, Tryz.ntmps35
      go_wp2_with (first | (go_at_call 66; refine c34.mono ?_; rintro e w' ⟨rfl, R', X⟩; obtain ⟨⟨nv, sv, mv, nn, ns, RV⟩, F'⟩ := R'; have y0 : w'.cell? ⟨q, 0, none⟩ = some (.int .i64 m.room) := (RV.sh.cell 0).trans (by rw [← hE.out.2.2.2]; rfl); have cu := used_q w' q m.act nv sv mv RV.sh (by rw [hE.out.2.1, hE.out.2.2.1]; have := HU.out; omega); rw [hE.out.2.1, hE.out.2.2.1, HU.out] at cu))
      go_quiet ((go_at_call 67; exact cu _))
      have RV2 := RV.far (chg_drewN (Chg.refl w' (fun _ => False)) nq) (fun _ _ h => h)
      have X2 := X.trans ((chg_drewN (Chg.refl w' (fun _ => False)) nq).ext (T := T) (T' := T) (fun _ _ h => h.elim) (fun _ _ => rfl))
      clear cu y0 RV X c34
      generalize w'.drewN nq = wd at *
      obtain ⟨v, k1, k2, k3, k4⟩ := RV2.fl b HT.out
      rw [hE.out.1] at k1 k2 k4
      have P2 := HP.out.ext X2
      have y0 := k1.cell0
      have y4 : wd.cell? ⟨q, 4, none⟩ = some (.int .i64 (m.named : Int)) := (RV2.sh.cell 4).trans (by rw [← hE.out.2.1]; rfl)
      have z4 := RV2.sh.fz 4
      have hqb : q ≠ b := by intro e; have := RV2.tq; rw [e, HT.out] at this; cases this
      have HK1 := Lib.hid k1
      have HK2 := Lib.hid k2
      have HK3 := Lib.hid k3
      have HK4 := Lib.hid k4
      have HP2 := Lib.hid P2
      have HRV := Lib.hid RV2
      have hvb : v.ownBlock ≠ some b := by intro e; have := k3 b e; rw [HT.out] at this; cases this
      have hvq : v.ownBlock ≠ some q := by intro e; have := k3 q e; rw [RV2.tq] at this; cases this
      have hqs := RV2.sh.lt
      have hbs := k1.lt
      clear k1 k2 k3 k4 P2 RV2
      go_wp2_with (first | (at_builtin; refine own_app rfl _ _ rfl v (m.fl b).1 p A _ c rfl rfl HL.out HK2.out HP2.out.1 hA HLE.out ?_; intro A' ln c' w3 hln O3 G3 W3; have C3 := chg_grown G3; obtain ⟨q4, qf4, b0, bf0⟩ := app_cells C3 HRV.out.sh HK1.out hvq hvb; rw [hE.out.2.1] at q4) | go_in)
      go_ret
      have C4 : Chg wd (w3.setCell ⟨b, 0, none⟩ (.slice A' ln c')) (fun k => k = b ∨ v.ownBlock = some k) := (C3.wide (fun _ _ h => Or.inr h)).andThen (chg_set w3 b 0 _) (fun _ _ h => Or.inl h)
      have O4 : Own (w3.setCell ⟨b, 0, none⟩ (.slice A' ln c')) (.slice A' ln c') ((m.fl b).1 ++ p) := O3.at (chg_set w3 b 0 _) (fun g hg e => by
        rcases W3 with h | h
        · rw [h] at hg; exact hvb (by rw [hg, e])
        · rw [h] at hg; injection hg with hg; omega)
      have F4 : FlAt (w3.setCell ⟨b, 0, none⟩ (.slice A' ln c')) b (.slice A' ln c') (m.fl b).2 := (HK1.out.at C3 hvb).set0 _
      have RV4 := HRV.out.file_write (v := v) (v' := .slice A' ln c') (x := ((m.fl b).1 ++ p, (m.fl b).2)) HT.out HK3.out C4 F4 O4 (fun g hg => by
        rcases W3 with h | h
        · rw [h] at hg; exact Or.inl hg
        · rw [h] at hg; injection hg with hg; exact Or.inr (by omega)) (by have := HK4.out; simp only [List.length_append]; omega)
      have S5 := RV4.sh.set (m' := {m.act with fl := fun c => if c = b then ((m.fl b).1 ++ p, (m.fl b).2) else m.fl c, named := m.named + p.length}) (nv' := nv) (sv' := sv) (mv' := mv) 4 (.int .i64 ((m.named + pl : Nat) : Int)) (by rw [HL.out]; rfl)
      have C5 := chg_set (w3.setCell ⟨b, 0, none⟩ (.slice A' ln c')) q 4 (.int .i64 ((m.named + pl : Nat) : Int))
      have RV5 := RV4.sh_step C5 S5 ⟨rfl, rfl, rfl, by simp only [M.file]; rw [hE.out.1]⟩ (Nat.le_refl _)
      have C6 : Chg wd _ (fun k => (k = b ∨ v.ownBlock = some k) ∨ k = q) := (C4.wide (fun _ _ h => Or.inl h)).andThen C5 (fun _ _ h => Or.inr h)
      refine ⟨rfl, _, ⟨⟨_, _, _, _, _, by rw [HAP.out]; exact RV5⟩, HFn.out⟩, X2.trans (C6.ext ?_ (fun k hk => if_pos hk))⟩
      rintro k _ ((rfl | h) | rfl)
      · exact tag_ne HT.out (by intro h; cases h)
      · exact tag_ne (HK3.out k h) (by intro h; cases h)
      · exact tag_ne HRV.out.tq (by intro h; cases h)
set_option maxRecDepth 4000 in
theorem cut_rep (w : World) (T : Nat → Tag) (q : Nat) (m : M) (name : S) (n : Int) (R : Rep w T q m) (hd : m.done < 1000000000) (hl : name.length ≤ 1000) (hn : (Lit.int .i64 n).wf = true) :
    Calls Tryz.prog 102 #[.pointer (some ⟨q, 0, none⟩), .string (str name), .int .i64 n] w fun e w' => e = .returned (.int .i64 (m.cutE name n : Int)) ∧ ∃ T', Rep w' T' q (m.cut name n) ∧ Ext w T w' T' := by
  have c34 := actOn_rep w T q m name R hd hl
  obtain ⟨nm, hnm⟩ : ∃ nm, nm = str name := ⟨_, rfl⟩
  rw [← hnm] at c34 ⊢
  rcases onE_cases m name with ⟨h1, h2, h3⟩ | ⟨h1, h2, h3, h4⟩ | ⟨b, h1, h2, h3, h4⟩
  · rw [show m.cutE name n = 7 by simp [M.cutE, h1, h2]]
    rw [h1, h2] at c34
    rw [show m.cut name n = m.act by simp [M.cut, h2]]
    simp only [ptrV] at c34
    clear hnm h1 h2 h3 R
    go_enter Tryz.func102, Tryz.ntmps102
    go_wp2_with (first | (go_at_call 66; refine c34.mono ?_; rintro e w' ⟨rfl, R', X⟩))
    go_ret
    exact ⟨rfl, _, R', X⟩
  · rw [show m.cutE name n = 2 by simp [M.cutE, h1, h2]]
    rw [h1, h2] at c34
    rw [show m.cut name n = m.act by simp [M.cut, h2]]
    simp only [ptrV] at c34
    clear hnm h1 h2 h3 h4 R
    go_enter Tryz.func102, Tryz.ntmps102
    go_wp2_with (first | (go_at_call 66; refine c34.mono ?_; rintro e w' ⟨rfl, R', X⟩))
    go_ret
    exact ⟨rfl, _, R', X⟩
  · have hT := R.fileOf h4
    have hFn := R.2.cut name n
    have hby := R.2.bytes
    have hle : (m.fl b).1.length ≤ m.named := by rw [R.2.named]; exact tot_le (mem_get h4)
    rw [h1, h2] at c34
    simp only [ptrV] at c34
    obtain ⟨e1, e2, e3, e4, e5, e6, e7⟩ := act_now m
    have hE := Lib.hid (And.intro e4 (And.intro e5 (And.intro e6 e7)))
    have HT := Lib.hid hT
    obtain ⟨fl, hfl⟩ : ∃ fl, fl = (m.fl b).1.length := ⟨_, rfl⟩
    rw [← hfl] at hle
    have HL := Lib.hid hfl
    by_cases hneg : n < 0
    · rw [show m.cutE name n = 1 by simp only [M.cutE, h2]; exact if_pos (Or.inl hneg)]
      rw [show m.cut name n = m.act by simp only [M.cut, h2]; exact if_pos (Or.inl hneg)]
      clear hnm h1 h2 h3 h4 R hT hFn e1 e2 e3 e4 e5 e6 e7 hfl
      go_enter Tryz.func102, Tryz.ntmps102
      go_wp2_with (first | (go_at_call 66; refine c34.mono ?_; rintro e w' ⟨rfl, R', X⟩))
      go_ret
      exact ⟨rfl, _, R', X⟩
    · by_cases hbig : n > fl
      · rw [show m.cutE name n = 1 by simp only [M.cutE, h2]; exact if_pos (Or.inr (by omega))]
        rw [show m.cut name n = m.act by simp only [M.cut, h2]; exact if_pos (Or.inr (by omega))]
        clear hnm h1 h2 h3 h4 R hT hFn e1 e2 e3 e4 e5 e6 e7 hfl
        go_enter Tryz.func102, Tryz.ntmps102
        go_wp2_with (first | (go_at_call 66; refine c34.mono ?_; rintro e w' ⟨rfl, R', X⟩; obtain ⟨⟨nv, sv, mv, nn, ns, RV⟩, F'⟩ := R'; obtain ⟨v, k1, k2, k3, k4⟩ := RV.fl b HT.out; obtain ⟨A, c, hv, _, _, _, _⟩ := k2.form; rw [hE.out.1, ← HL.out] at hv; have y0 := k1.cell0; rw [hv] at y0))
        go_ret
        exact ⟨rfl, _, ⟨⟨_, _, _, _, _, RV⟩, F'⟩, X⟩
      · rw [show m.cutE name n = 0 by simp only [M.cutE, h2]; exact if_neg (by omega)]
        have hC : m.cut name n = {m.act with fl := fun c => if c = b then ((m.fl b).1.take n.toNat, n.toNat) else m.fl c, named := m.named - ((m.fl b).1.length - n.toNat)} := by simp only [M.cut, h2]; exact if_neg (by omega)
        obtain ⟨k, rfl⟩ : ∃ k : Nat, n = k := ⟨n.toNat, by omega⟩
        have HFn := Lib.hid hFn
        have HC := Lib.hid hC
        have hw1 : IntKind.i64.wrap ((fl : Int) - (k : Int)) = ((fl - k : Nat) : Int) := by rw [IntKind.wrap_i64] <;> omega
        have hw2 : IntKind.i64.wrap ((m.named : Int) - ((fl - k : Nat) : Int)) = ((m.named - (fl - k) : Nat) : Int) := by rw [IntKind.wrap_i64] <;> omega
        clear hnm h1 h2 h3 h4 R hT hFn e1 e2 e3 e4 e5 e6 e7 hfl hC
        go_enter Tryz.func102, Tryz.ntmps102
        go_wp2_with (first | (go_at_call 66; refine c34.mono ?_; rintro e w' ⟨rfl, R', X⟩; obtain ⟨⟨nv, sv, mv, nn, ns, RV⟩, F'⟩ := R'; obtain ⟨v, k1, k2, k3, k4⟩ := RV.fl b HT.out; obtain ⟨A, c, hv, _, _, _, _⟩ := k2.form; rw [hE.out.1, ← HL.out] at hv; have y0 := k1.cell0; rw [hv] at y0))
        refine wp_region_still_tail 14 (by kernel_rfl) (by kernel_rfl) ?_
        simp only [List.take_succ_cons, List.take_zero, List.drop_succ_cons, List.drop_zero]
        change wpStill _ _ w'.drew (fun a' => wpList _ _ _ _ a' w'.drew) _ _
        have RV2 := RV.far (chg_drewN (Chg.refl w' (fun _ => False)) 1) (fun _ _ h => h)
        have X2 := X.trans ((chg_drewN (Chg.refl w' (fun _ => False)) 1).ext (T := T) (T' := T) (fun _ _ h => h.elim) (fun _ _ => rfl))
        have y4 : w'.drew.cell? ⟨q, 4, none⟩ = some (.int .i64 (m.named : Int)) := (RV.sh.cell 4).trans (by rw [← hE.out.2.1]; rfl)
        have z4 : w'.drew.frozen? ⟨q, 4, none⟩ = false := RV.sh.fz 4
        have y0 : w'.drew.cell? ⟨b, 0, none⟩ = _ := y0
        have k1 : FlAt w'.drew b v _ := k1
        have k2 : Own w'.drew v _ := k2
        have hdr : w'.drewN 1 = w'.drew := rfl
        rw [hdr] at RV2 X2
        clear RV X hdr c34
        generalize w'.drew = wd at *
        repeat still_step
        refine wpStill_nil ?_
        have S5 := RV2.sh.set (m' := {m.act with named := m.named - (fl - k)}) (nv' := nv) (sv' := sv) (mv' := mv) 4 (.int .i64 ((m.named - (fl - k) : Nat) : Int)) rfl
        have C5 := chg_set wd q 4 (.int .i64 ((m.named - (fl - k) : Nat) : Int))
        have RV5 := RV2.sh_step C5 S5 ⟨rfl, rfl, rfl, rfl⟩ (Nat.le_refl _)
        have hqb : q ≠ b := by intro e; have := RV2.tq; rw [e, HT.out] at this; cases this
        have hvq : v.ownBlock ≠ some q := by intro e; have := k3 q e; rw [RV2.tq] at this; cases this
        have hvb : v.ownBlock ≠ some b := by intro e; have := k3 b e; rw [HT.out] at this; cases this
        have k1 := k1.at C5 (fun e => hqb e.symm)
        have k2 := k2.at C5 (fun g hg e => hvq (by rw [hg, e]))
        have c46 := keep_any _ b v _ _ k k1 k2 hvb (by rw [hE.out.1, ← HL.out]; omega)
        have HRV5 := Lib.hid RV5
        have HC5 := Lib.hid C5
        clear S5 RV5 C5 k1 k2 RV2
        generalize hW : (((m.named - (fl - k) : Nat) : Int)) = N at *
        have HW := Lib.hid hW
        clear hW
        go_wp2_with (first | (go_at_call 48; refine c46.mono ?_; rintro e w6 ⟨rfl, v', F6, O6, B6, G6⟩) | go_in)
        go_ret
        have C6 := chg_of_grown G6
        have RV6 := HRV5.out.file_write (v := v) (v' := v') (x := ((m.fl b).1.take k, k)) HT.out k3 (C6.wide (fun _ _ h => Or.inl h)) F6 (by rw [hE.out.1] at O6; exact O6) (fun g hg => Or.inl (by rw [← B6]; exact hg)) (by simp only [List.length_take, ← HL.out]; omega)
        have C7 : Chg wd w6 (fun i => i = q ∨ i = b) := (HC5.out.wide (fun _ _ h => Or.inl h)).andThen C6 (fun _ _ h => Or.inr h)
        refine ⟨rfl, _, ⟨⟨_, _, _, _, _, by rw [HC.out]; simp only [M.file, hE.out.1, HL.out] at RV6; exact RV6⟩, HFn.out⟩, X2.trans (C7.ext ?_ (fun i hi => if_pos (Nat.lt_of_lt_of_le hi HC5.out.size)))⟩
        rintro i _ (rfl | rfl)
        · exact tag_ne HRV5.out.tq (by intro h; cases h)
        · exact tag_ne HT.out (by intro h; cases h)
end Go.Proofs.YtdbhgkbmbbjpdaaGreatDoor.Shf
namespace Go.Proofs
open Go.Shelf
def Tryz.clone47_ren : Go.Shelf.Ren := ⟨fun | 5 => 47 | 7 => 82 | n => n, fun | 23 => 76 | 25 => 9 | 3 => 86 | 4 => 4 | 20 => 20 | n => n, fun | n => n⟩
theorem Tryz.clone47 : Go.Proofs.SlLaysW.n5 Tryz.prog Tryz.clone47_ren := {
  mixed := by kernel_rfl
  f5 := ⟨Tryz.f47.name, by decide, Tryz.func47.trans (congrArg some (by kernel_rfl))⟩
  f7 := Tryz.func82.trans (congrArg some (by kernel_rfl))
  t4 := Tryz.underlying4
  a4 := Tryz.isAgg4
  z4 := Tryz.sizeOf4
  v4 := Tryz.zeroValue4
  t20 := Tryz.underlying20
  a20 := Tryz.isAgg20
  z20 := Tryz.sizeOf20
  v20 := Tryz.zeroValue20
  t23 := Tryz.underlying76
  a23 := Tryz.isAgg76
  z23 := Tryz.sizeOf76
  v23 := Tryz.zeroValue76 }
end Go.Proofs
namespace Go.Proofs.YtdbhgkbmbbjpdaaGreatDoor.Shf
open Go.ChangeShapes Go.WideShapes Go.ChangeAt Go.RowKit Go.Shelf Go.Maps
theorem clone_any (w : World) (v : Value) (n : Nat) (l : List (S × Nat)) (h : NMv w v n l) : Calls Tryz.prog 47 #[v] w fun e w' => ∃ v', e = .returned v' ∧ NMv w' v' n l ∧ (∀ b, mapBlock v' = some b → w.heap.size ≤ b) ∧ Below w.heap.size w w' := by
  rcases h with ⟨rfl, rfl⟩ | ⟨b, rfl, D, h1, h2⟩
  · refine (AnyW.maps_Clone_nil Tryz.clone47 w).mono ?_
    rintro e w' ⟨rfl, rfl⟩
    exact ⟨_, rfl, Or.inl ⟨rfl, rfl⟩, fun b h => (by cases h), Below.refl _ _⟩
  · refine (AnyW.maps_Clone_owns Tryz.clone47 9 ptrR b n D w h1).mono ?_
    rintro e w' ⟨rfl, k1, _, hB⟩
    exact ⟨_, rfl, Or.inr ⟨w.heap.size, rfl, D, k1, h2⟩, fun b h => by cases h; exact Nat.le_refl _, hB⟩
theorem run_eql22 (w : World) (a : Option Addr) (l c : Nat) : (binOp .eql 30 (.slice a l c) (.slice none 0 0)).run Tryz.prog w = .ok (.bool a.isNone) w := by
  simp only [binOp]
  simp [Op.equal, Op.maxDepth, Lib.run_equalIn_slice_nil w 9999 30 5 a l c 0 0 Tryz.underlying30]
def Fresh (w : World) (B : Nat) (v : Value) (l : List UInt8) : Prop := Own w v l ∧ ∀ b, v.ownBlock = some b → B ≤ b
set_option maxRecDepth 4000 in
theorem bytes_clone (w : World) (A : Option Addr) (l : List UInt8) (c : Nat) (hr : Rd w A l) (hA : A = none → c = 0 ∧ l = []) (hl : l.length ≤ 1000000000) :
    Calls Tryz.prog 54 #[.slice A l.length c] w fun e w' => ∃ v', e = .returned v' ∧ Fresh w' w.heap.size v' l ∧ Below w.heap.size w w' := by
  cases A with
  | none =>
    have hq := fun w => run_eql22 w none 0 0
    obtain ⟨rfl, rfl⟩ := hA rfl
    go_enter Tryz.func54, Tryz.ntmps54
    go_wp2
    go_ret
    exact ⟨_, rfl, ⟨Or.inl ⟨rfl, rfl⟩, fun b h => (by cases h)⟩, Below.refl _ _⟩
  | some ad =>
    have hO : Own (w.alloc (.cells #[] 5)) (.slice (some ⟨w.heap.size, 0, none⟩) 0 0) [] := Or.inr ⟨w.heap.size, 0, #[], rfl, alloc1 w _, Nat.le_refl _, by unfold maxLen; omega, Nat.le_refl _, rfl⟩
    have hB : Below w.heap.size w (w.alloc (.cells #[] 5)) := (Below.refl _ w).alloc (Nat.le_refl _) _
    have hr' : Rd (w.alloc (.cells #[] 5)) (some ad) l := hr.at (fun a e h0 => by
      obtain ⟨a', e', hc⟩ := hr h0
      injection e with e; injection e' with e'
      subst e; subst e'
      have h0' := hc 0 h0
      refine Below.heap_alloc w _ _ ?_
      rcases Nat.lt_or_ge ad.block w.heap.size with h | h
      · exact h
      · have : (ad.add 0).block = ad.block := block_add _ _
        simp [World.cell?, this, Array.getElem?_eq_none h] at h0')
    obtain ⟨n, hn⟩ : ∃ n, n = l.length := ⟨_, rfl⟩
    rw [← hn]
    have HO := Lib.hid hO
    have HB := Lib.hid hB
    have HR := Lib.hid hr'
    have HN := Lib.hid hn
    have hq := fun w => run_eql22 w (some ad) n c
    clear hO hB hr' hr hn hA
    go_enter Tryz.func54, Tryz.ntmps54
    go_wp2_with (first | (at_builtin; refine own_app rfl _ _ rfl _ [] l (some ad) _ c rfl rfl HN.out HO.out HR.out (fun h => by cases h) (by simp; omega) ?_; intro A' k c' w3 hk O3 G3 W3) | go_in)
    go_ret
    refine ⟨.slice A' k c', rfl, ⟨by simpa using O3, fun b hb => ?_⟩, ?_⟩
    · rcases W3 with h | h
      · rw [h] at hb; injection hb with hb; rw [← hb]; exact Nat.le_refl _
      · rw [h] at hb; simp at hb; omega
    · exact HB.out.grown G3 (by simp) (fun k hk => by injection hk with hk; rw [← hk]; exact Nat.le_refl _)
def M.readE (m : M) (name : S) : Nat := if m.fallen then 7 else match get m.now name with | none => 2 | some _ => 0
def M.readP (m : M) (name : S) : S := if m.fallen then [] else match get m.now name with | none => [] | some b => (m.fl b).1
set_option maxRecDepth 4000 in
theorem read_rep (w : World) (T : Nat → Tag) (q : Nat) (m : M) (name : S) (R : Rep w T q m) (hl : name.length ≤ 1000) :
    Calls Tryz.prog 25 #[.pointer (some ⟨q, 0, none⟩), .string (str name)] w fun e w' => ∃ v, e = .returned (.tuple #[v, .int .i64 (m.readE name : Int)]) ∧ Fresh w' w.heap.size v (m.readP name) ∧ Below w.heap.size w w' := by
  obtain ⟨⟨nv, sv, mv, nn, ns, RV⟩, F⟩ := R
  have c22 := on_any w q m nv sv mv RV.sh
  have hk := RV.nm.look (s := name) (by omega)
  have y1 : w.cell? ⟨q, 1, none⟩ = some nv := RV.sh.cell 1
  obtain ⟨nm, hnm⟩ : ∃ nm, nm = str name := ⟨_, rfl⟩
  rw [← hnm] at hk ⊢
  cases hf : m.fallen with
  | true =>
    rw [hf] at c22
    rw [show m.readE name = 7 by simp [M.readE, hf], show m.readP name = [] by simp [M.readP, hf]]
    clear RV F hnm hf
    go_enter Tryz.func25, Tryz.ntmps25
    go_wp2_with (first | (go_at_call 17; refine c22.mono ?_; rintro e w' ⟨rfl, rfl⟩))
    go_ret2
    exact ⟨_, rfl, ⟨Or.inl ⟨rfl, rfl⟩, fun b h => (by cases h)⟩, Below.refl _ _⟩
  | false =>
    rw [hf] at c22
    cases hg : get m.now name with
    | none =>
      rw [hg] at hk
      rw [show m.readE name = 2 by simp [M.readE, hf, hg], show m.readP name = [] by simp [M.readP, hf, hg]]
      simp only [ptrV] at hk
      clear RV F hnm hf hg
      go_enter Tryz.func25, Tryz.ntmps25
      go_wp2_with (first | (go_at_call 17; refine c22.mono ?_; rintro e w' ⟨rfl, rfl⟩))
      go_ret2
      exact ⟨_, rfl, ⟨Or.inl ⟨rfl, rfl⟩, fun b h => (by cases h)⟩, Below.refl _ _⟩
    | some b =>
      rw [hg] at hk
      have hm := mem_get hg
      have hT := RV.lnow _ hm
      obtain ⟨v, k1, k2, _, _⟩ := RV.fl b hT
      have hle := tot_le (fl := m.fl) hm
      have hnd := F.named
      have hby := F.bytes
      rw [show m.readE name = 0 by simp [M.readE, hf, hg], show m.readP name = (m.fl b).1 by simp [M.readP, hf, hg]]
      simp only [ptrV] at hk
      obtain ⟨A, c, rfl, r1, r2, r3, _⟩ := k2.form
      have hA : A = none → c = 0 ∧ (m.fl b).1 = [] := fun e => ⟨r3 e, List.eq_nil_of_length_eq_zero (by have := r3 e; omega)⟩
      have c47 := bytes_clone w A (m.fl b).1 c r1 hA (by omega)
      have y0 := k1.cell0
      generalize (m.fl b).1 = pl at *
      obtain ⟨n, hn⟩ : ∃ n, n = pl.length := ⟨_, rfl⟩
      rw [← hn] at y0 c47
      clear RV F hnm hf hg hm hT k1 k2 hle hnd hby r1 r2 r3 hA hn
      go_enter Tryz.func25, Tryz.ntmps25
      go_wp2_with (first
        | (go_at_call 17; refine c22.mono ?_; rintro e w' ⟨rfl, rfl⟩)
        | (go_at_call 54; refine c47.mono ?_; rintro e w2 ⟨v', rfl, h1, h2⟩))
      go_ret2
      exact ⟨_, rfl, h1, h2⟩
end Go.Proofs.YtdbhgkbmbbjpdaaGreatDoor.Shf
namespace Go.Proofs.YtdbhgkbmbbjpdaaGreatDoor.Shf
open Go.ChangeShapes Go.WideShapes Go.ChangeAt Go.RowKit Go.Maps
def kept (x : S × Nat) (n : Int) : S × Nat := (x.1.take (left x n), left x n)
def M.part (m : M) (n : Int) (lf : Lit → Bool) : M := {m with fl := fun c => if m.now.any (fun p => p.2 == c && !lf (.string p.1)) then kept (m.fl c) n else m.fl c, named := (m.now.map fun p => if lf (.string p.1) then 0 else (kept (m.fl p.2) n).1.length).sum}
theorem part_start (m : M) (n : Int) (lf : Lit → Bool) (h : ∀ p ∈ m.now, lf (.string p.1) = true) (h0 : m.named = 0) : m.part n lf = m := by
  have e1 : (fun c => if m.now.any (fun p => p.2 == c && !lf (.string p.1)) then kept (m.fl c) n else m.fl c) = m.fl := by
    funext c
    rw [if_neg]
    rw [List.any_eq_true]
    rintro ⟨p, hp, h1⟩
    rw [h p hp] at h1
    simp at h1
  have e2 : (m.now.map fun p => if lf (.string p.1) then 0 else (kept (m.fl p.2) n).1.length).sum = 0 := by
    have : m.now.map (fun p => if lf (.string p.1) then 0 else (kept (m.fl p.2) n).1.length) = m.now.map (fun _ => 0) := by
      apply List.map_congr_left
      intro p hp
      rw [h p hp, if_pos rfl]
    rw [this]
    clear this h
    induction m.now with
    | nil => rfl
    | cons p l ih => simpa using ih
  unfold M.part
  rw [e1, e2, ← h0]
theorem part_end (m : M) (n : Int) (lf : Lit → Bool) (h : ∀ p ∈ m.now, lf (.string p.1) = false) : m.part n lf = {m with fl := fallF m.fl m.now n, named := tot (fallF m.fl m.now n) m.now} := by
  have e1 : (fun c => if m.now.any (fun p => p.2 == c && !lf (.string p.1)) then kept (m.fl c) n else m.fl c) = fallF m.fl m.now n := by
    funext c
    have : m.now.any (fun p => p.2 == c && !lf (.string p.1)) = m.now.any (fun p => p.2 == c) := by
      rw [Bool.eq_iff_iff, List.any_eq_true, List.any_eq_true]
      constructor
      · rintro ⟨p, hp, h1⟩; exact ⟨p, hp, by simp only [Bool.and_eq_true] at h1; exact h1.1⟩
      · rintro ⟨p, hp, h1⟩; exact ⟨p, hp, by rw [h p hp, h1]; rfl⟩
    rw [this]
    rfl
  have e2 : (m.now.map fun p => if lf (.string p.1) then 0 else (kept (m.fl p.2) n).1.length).sum = tot (fallF m.fl m.now n) m.now := by
    unfold tot
    congr 1
    apply List.map_congr_left
    intro p hp
    rw [h p hp, if_neg (by simp)]
    unfold fallF
    rw [if_pos (List.any_eq_true.2 ⟨p, hp, by simp⟩)]
    rfl
  unfold M.part
  rw [e1, e2]
theorem sum_step {l : List (S × Nat)} (hk : (l.map (·.1)).Nodup) {x : S} {c : Nat} (hm : (x, c) ∈ l) (f : S × Nat → Nat) (lf : Lit → Bool) (hl : lf (.string x) = true) :
    (l.map fun p => if (lf (.string p.1) && !(Lit.string p.1).sameKey (.string x)) then 0 else f p).sum = (l.map fun p => if lf (.string p.1) then 0 else f p).sum + f (x, c) := by
  induction l with
  | nil => simp at hm
  | cons p l ih =>
    obtain ⟨y, d⟩ := p
    simp only [List.map_cons, List.nodup_cons] at hk
    rcases List.mem_cons.1 hm with e | hm
    · injection e with e1 e2
      subst e1; subst e2
      have hrest : l.map (fun p => if (lf (.string p.1) && !(Lit.string p.1).sameKey (.string x)) then 0 else f p) = l.map (fun p => if lf (.string p.1) then 0 else f p) := by
        apply List.map_congr_left
        intro p hp
        have : p.1 ≠ x := fun e => hk.1 (by rw [← e]; exact List.mem_map_of_mem hp)
        rw [Maps.sameKey_ne (a := .string p.1) (by intro e; injection e with e; exact this e)]
        simp
      simp only [List.map_cons, List.sum_cons, hrest, hl, WideAt.sameKey_self (a := .string x) trivial, Bool.not_true, Bool.and_false, Bool.false_eq_true, if_false, if_true]
      omega
    · have hne : y ≠ x := fun e => hk.1 (by rw [e]; exact List.mem_map_of_mem (f := (·.1)) hm)
      have := ih hk.2 hm
      simp only [List.map_cons, List.sum_cons, this, Maps.sameKey_ne (a := .string y) (b := .string x) (by intro e; injection e with e; exact hne e), Bool.not_false, Bool.and_true]
      omega
theorem part_step (m : M) (n : Int) (lf : Lit → Bool) (G : Good m.now) (x : S) (c : Nat) (hm : (x, c) ∈ m.now) (hl : lf (.string x) = true) :
    (m.part n lf).fl c = m.fl c ∧ m.part n (fun z => lf z && !z.sameKey (.string x)) = {(m.part n lf).file c (kept (m.fl c) n) with named := (m.part n lf).named + (kept (m.fl c) n).1.length} := by
  constructor
  · show (if m.now.any (fun p => p.2 == c && !lf (.string p.1)) then _ else _) = _
    rw [if_neg]
    rw [List.any_eq_true]
    rintro ⟨p, hp, h1⟩
    simp only [Bool.and_eq_true, beq_iff_eq] at h1
    have : p.1 = x := G.one (s := p.1) (t := x) (b := c) (by rw [← h1.1]; exact hp) hm
    rw [this, hl] at h1
    simp at h1
  · have e1 : (fun d => if m.now.any (fun p => p.2 == d && !(lf (.string p.1) && !(Lit.string p.1).sameKey (.string x))) then kept (m.fl d) n else m.fl d) = fun d => if d = c then kept (m.fl c) n else if m.now.any (fun p => p.2 == d && !lf (.string p.1)) then kept (m.fl d) n else m.fl d := by
      funext d
      by_cases e : d = c
      · subst e
        rw [if_pos rfl, if_pos]
        refine List.any_eq_true.2 ⟨(x, d), hm, ?_⟩
        simp [WideAt.sameKey_self (a := .string x) trivial]
      · rw [if_neg e]
        have : m.now.any (fun p => p.2 == d && !(lf (.string p.1) && !(Lit.string p.1).sameKey (.string x))) = m.now.any (fun p => p.2 == d && !lf (.string p.1)) := by
          rw [Bool.eq_iff_iff, List.any_eq_true, List.any_eq_true]
          have same : ∀ p ∈ m.now, p.2 = d → (Lit.string p.1).sameKey (.string x) = false := fun p hp hd => by
            apply Maps.sameKey_ne
            intro e'
            injection e' with e'
            have h1 : get m.now x = some d := get_mem G.keys (by rw [← e', ← hd]; exact hp)
            rw [get_mem G.keys hm] at h1
            injection h1 with h1
            exact e h1.symm
          constructor
          · rintro ⟨p, hp, h1⟩
            refine ⟨p, hp, ?_⟩
            simp only [Bool.and_eq_true, beq_iff_eq] at h1 ⊢
            rw [same p hp h1.1] at h1
            simpa using h1
          · rintro ⟨p, hp, h1⟩
            refine ⟨p, hp, ?_⟩
            simp only [Bool.and_eq_true, beq_iff_eq] at h1 ⊢
            rw [same p hp h1.1]
            simpa using h1
        rw [this]
    have e2 := sum_step G.keys hm (fun p => (kept (m.fl p.2) n).1.length) lf hl
    unfold M.part M.file
    rw [e1]
    simp only
    rw [e2]
theorem RepV.file_same {w w' : World} {T : Nat → Tag} {q : Nat} {m : M} {nv sv mv : Value} {nn ns b : Nat} {v v' : Value} {x : S × Nat} (R : RepV w T q m nv sv mv nn ns) (hb : T b = .file) (hv : ∀ g, v.ownBlock = some g → T g = .row b) (hc : Chg w w' (fun k => k = b ∨ v.ownBlock = some k))
    (hF : FlAt w' b v' x.2) (hO : Own w' v' x.1) (ho : v'.ownBlock = v.ownBlock) (hx : x.2 ≤ x.1.length) : RepV w' T q (m.file b x) nv sv mv nn ns := by
  have := R.file_write hb hv hc hF hO (fun g hg => Or.inl (by rw [← ho]; exact hg)) hx
  have e : (fun k => if k < w.heap.size then T k else if v'.ownBlock = some k then Tag.row b else .none) = T := by
    funext k
    by_cases h : k < w.heap.size
    · rw [if_pos h]
    · rw [if_neg h]
      have hT : T k = .none := by
        cases e : T k with
        | none => rfl
        | _ => exact absurd (R.old k (by rw [e]; intro h; cases h)) h
      rw [if_neg, hT]
      intro e
      rw [ho] at e
      have := hv k e
      rw [hT] at this
      cases this
  rwa [e] at this
theorem RepV.out {w : World} {T : Nat → Tag} {q : Nat} {m : M} {nv sv mv : Value} {nn ns k : Nat} (R : RepV w T q m nv sv mv nn ns) (h : w.heap.size ≤ k) : T k = .none := by
  cases e : T k with
  | none => rfl
  | _ => exact absurd (R.old k (by rw [e]; intro h; cases h)) (by omega)
theorem RepV.names_step {w w' : World} {T : Nat → Tag} {q : Nat} {m m' : M} {nv sv mv nv' : Value} {nn ns nn' : Nat} {l : List (S × Nat)} (R : RepV w T q m nv sv mv nn ns) (hN : NMv w' nv' nn' l) (hb : ∀ b, mapBlock nv' = some b → w.heap.size ≤ b) (hc : Chg w w' (fun k => k = q)) (hS : ShAt w' q m' nv' sv mv)
    (e : m'.now = l ∧ m'.safe = m.safe ∧ m'.moves = m.moves ∧ m'.fl = m.fl ∧ m'.done = m.done) (hl : ∀ p ∈ l, T p.2 = .file) (hnn : nn' ≤ m.done) :
    RepV w' (fun k => if k < w.heap.size then T k else if mapBlock nv' = some k then .names else .none) q m' nv' sv mv nn' ns := by
  obtain ⟨e1, e2, e3, e4, e5⟩ := e
  have keep : ∀ {k t}, T k = t → t ≠ .none → (if k < w.heap.size then T k else if mapBlock nv' = some k then Tag.names else .none) = t := fun {k t} h ht => by
    rw [if_pos (R.old k (by rw [h]; exact ht)), h]
  have ne : ∀ {k}, T k ≠ .shelf → ¬ k = q := fun h e => h (by rw [e]; exact R.tq)
  refine ⟨hS, keep R.tq (by intro h; cases h), by rw [e1]; exact hN, ?_, ?_, fun k hk => keep (R.ts k hk) (by intro h; cases h), ?_, fun k hk => keep (R.tm k hk) (by intro h; cases h), ?_, ?_, ?_, ?_, ?_, by rw [e5]; exact hnn, by rw [e3, e5]; exact R.bns⟩
  · intro k hk; rw [if_neg (by have := hb k hk; omega), if_pos hk]
  · rw [e2]; exact R.sf.at hc (fun k hk => ne (by rw [R.ts k hk]; intro h; cases h))
  · rw [e3]; exact R.mo.at hc (fun k hk => ne (by rw [R.tm k hk]; intro h; cases h))
  · intro k hk
    have hk' : T k = .file := by
      by_cases e : k < w.heap.size
      · rwa [if_pos e] at hk
      · rw [if_neg e] at hk; split at hk <;> cases hk
    obtain ⟨v, h1, h2, h3, h4⟩ := R.fl k hk'
    rw [e4]
    exact ⟨v, h1.at hc (ne (by rw [hk']; intro h; cases h)), h2.at hc (fun g hg => ne (by rw [h3 g hg]; intro h; cases h)), fun g hg => keep (h3 g hg) (by intro h; cases h), h4⟩
  · intro k hk
    by_cases e : k < w.heap.size
    · exact Nat.lt_of_lt_of_le e hc.size
    · rw [if_neg e] at hk
      by_cases e2 : mapBlock nv' = some k
      · exact hN.lt k e2
      · rw [if_neg e2] at hk; exact absurd rfl hk
  · rw [e1]; exact fun p hp => keep (hl p hp) (by intro h; cases h)
  · rw [e2]; exact fun p hp => keep (R.lsafe p hp) (by intro h; cases h)
  · rw [e3]; exact fun v hv => ⟨fun b hb => keep ((R.lmov v hv).1 b hb) (by intro h; cases h), (R.lmov v hv).2⟩
def Rng (w : World) (mb : Option Nat) (r n : Nat) (l : List (S × Nat)) (lf : Lit → Bool) (cnt : Nat) : Prop :=
  (mb = none ∧ l = [] ∧ cnt = 0 ∧ ∃ a s c, w.heap[r]? = some (.mapIter none a s c)) ∨ ∃ b D, mb = some b ∧ w.ranges Tryz.prog 9 ptrR b r n D lf cnt ∧ ∀ s z, D.atKey (.string s) z = atV (get l s) z
def rl (w : World) (mb : Option Nat) (r : Nat) : Nat := match mb with | none => 0 | some b => w.rangeLeft b r
theorem Rng.rl {w : World} {mb : Option Nat} {r n : Nat} {l : List (S × Nat)} {lf : Lit → Bool} {cnt : Nat} (h : Rng w mb r n l lf cnt) : rl w mb r = cnt := by
  rcases h with ⟨rfl, _, rfl, _⟩ | ⟨b, D, rfl, h, _⟩
  · rfl
  · exact h.left_eq
theorem Rng.lt {w : World} {mb : Option Nat} {r n : Nat} {l : List (S × Nat)} {lf : Lit → Bool} {cnt : Nat} (h : Rng w mb r n l lf cnt) : r < w.heap.size := by
  rcases h with ⟨_, _, _, a, s, c, h⟩ | ⟨b, D, _, h, _⟩
  · exact (Array.getElem?_eq_some_iff.1 h).1
  · exact h.lt
theorem Rng.kept {w w' : World} {mb : Option Nat} {r n : Nat} {l : List (S × Nat)} {lf : Lit → Bool} {cnt : Nat} {row : Option Nat} (h : Rng w mb r n l lf cnt) (hg : w.grownBy w' row) (hm : ∀ b, mb = some b → some b ≠ row) (hr : some r ≠ row) : Rng w' mb r n l lf cnt := by
  rcases h with ⟨h1, h2, h3, a, s, c, h⟩ | ⟨b, D, rfl, h, h2⟩
  · exact Or.inl ⟨h1, h2, h3, a, s, c, (hg.block r (Array.getElem?_eq_some_iff.1 h).1 hr).trans h⟩
  · exact Or.inr ⟨b, D, rfl, h.kept hg (hm b rfl) hr, h2⟩
theorem rng_range {w : World} {ops : Array Oper} {rest : List Oper} {o : Oper} {a : Act} {Q : Exit → Act → World → Prop} (hg : o.guard = none) (x : Operand) (hop : o.op = Op.range 76 x) (mb : Option Nat) (n : Nat) (l : List (S × Nat)) (hx : a.eval x = .map mb) (h : NMv w (.map mb) n l)
    (hK : ∀ w' lf cnt, Rng w' mb w.heap.size n l lf cnt → (∀ p ∈ l, lf (.string p.1) = true) → w.grownBy w' none → w'.heap.size = w.heap.size + 1 → wpList Tryz.prog ops Q rest (a.put o.dst (.pointer (some ⟨w.heap.size, 0, none⟩))) w') : wpList Tryz.prog ops Q (o :: rest) a w := by
  refine wpList_plain hg fun K' hK' => ?_
  rcases h with ⟨e, rfl⟩ | ⟨b, e, D, h1, h2⟩
  · injection e with e
    subst e
    unfold Oper.wp
    simp [execOp, hop, hx, run_range_nilMap w 76 9 86 Tryz.underlying76, Result.andThen]
    refine hK' _ _ (hK _ (fun _ => false) 0 (Or.inl ⟨rfl, rfl, rfl, 0, #[], 0, alloc1 w _⟩) (by simp) (World.grownBy_alloc w _ none) (by simp))
  · injection e with e
    subst e
    obtain ⟨w', hrun, r1, r2, r3⟩ := h1.range law Tryz.underlying76
    unfold Oper.wp
    simp [execOp, hop, hx, hrun, Result.andThen]
    refine hK' _ _ (hK w' _ _ (Or.inr ⟨b, D, rfl, r1, h2⟩) (fun p hp => ?_) r2 r3)
    cases hg2 : get l p.1 with
    | none => exact absurd hp (get_none.1 hg2 p.2)
    | some c => exact has_true_of_atKey (y := .lit (.int .i64 c)) (fun z => by rw [h2, hg2]; rfl)
theorem rng_next {w : World} {ops : Array Oper} {rest : List Oper} {o : Oper} {a : Act} {Q : Exit → Act → World → Prop} (hg : o.guard = none) (it : Operand) (hop : o.op = Op.next it false) (mb : Option Nat) (r n : Nat) (l : List (S × Nat)) (lf : Lit → Bool) (cnt : Nat)
    (hit : a.eval it = .pointer (some ⟨r, 0, none⟩)) (h : Rng w mb r n l lf cnt) (hDone : (∀ p ∈ l, lf (.string p.1) = false) → wpList Tryz.prog ops Q rest (a.put o.dst (.tuple #[.bool false])) w)
    (hMore : ∀ (x : S) (c : Nat) (w' : World) (cnt' : Nat), lf (.string x) = true → (x, c) ∈ l → Rng w' mb r n l (fun z => lf z && !z.sameKey (.string x)) cnt' → cnt' < cnt → w.grownBy w' (some r) → (Instr.entry (.pointer (some ⟨r, 0, none⟩))).run Tryz.prog w' = .ok (.tuple #[.string (str x), .pointer (some ⟨c, 0, none⟩)]) w' →
      wpList Tryz.prog ops Q rest (a.put o.dst (.tuple #[.bool true, .string (str x), .pointer (some ⟨c, 0, none⟩)])) w') : wpList Tryz.prog ops Q (o :: rest) a w := by
  refine wpList_plain hg fun K' hK' => ?_
  unfold Oper.wp
  rcases h with ⟨rfl, rfl, rfl, a1, s1, c1, h⟩ | ⟨b, D, rfl, h, h2⟩
  · have hrun : ∀ ty, (Instr.next (.pointer (some ⟨r, 0, none⟩)) false ty).run Tryz.prog w = .ok (.tuple #[.bool false]) w := fun ty => by
      simp only [Instr.next, getObj, Sem.run_bind, Sem.run, h, Result.andThen]
      rfl
    simp [execOp, hop, hit, hrun, Result.andThen]
    exact hK' _ _ (hDone (by simp))
  · rcases h.next law o.type with ⟨h0, hl, hrun⟩ | ⟨key, v, kl, y, w', cnt', hkey, hlk, hv, hat, hrun, hrg, hlt, hgr, hsz, hen⟩
    · simp [execOp, hop, hit, hrun, Result.andThen]
      exact hK' _ _ (hDone (fun _ _ => hl _))
    · obtain ⟨s, rfl, rfl, _⟩ := Go.WideMaps.string_of_keyOf Tryz.underlying9 hkey
      obtain ⟨c, rfl, rfl⟩ := ptrR_inv hv
      have hs : s = str s.data.toList := rfl
      generalize s.data.toList = x at *
      subst hs
      simp [execOp, hop, hit, hrun, Result.andThen]
      have hgx : get l x = some c := atV_inj (p := some c) fun z => by rw [← h2 x z]; exact hat z
      exact hK' _ _ (hMore x c w' cnt' hlk (mem_get hgx) (Or.inr ⟨b, D, rfl, hrg, h2⟩) hlt hgr hen)
def Fin (w wr : World) (T : Nat → Tag) (q : Nat) (m : M) (mb : Option Nat) (sv : Value) (nn ns : Nat) (n : Int) (r : Nat) : Prop :=
  ∃ lf cnt, Rng wr mb r nn m.now lf cnt ∧ RepV wr T q (m.part n lf) (.map mb) sv (.slice none 0 0) nn ns ∧ Chg w wr (fun k => T k ≠ .none)
theorem part_named_le (m : M) (n : Int) (lf : Lit → Bool) : (m.part n lf).named ≤ tot m.fl m.now := by
  show (m.now.map fun p => if lf (.string p.1) then 0 else (kept (m.fl p.2) n).1.length).sum ≤ (m.now.map fun p => (m.fl p.2).1.length).sum
  induction m.now with
  | nil => simp
  | cons p l ih =>
    simp only [List.map_cons, List.sum_cons]
    have : (if lf (.string p.1) then 0 else (kept (m.fl p.2) n).1.length) ≤ (m.fl p.2).1.length := by
      split
      · omega
      · simp only [kept, List.length_take]; omega
    omega
theorem Fine.fall {m : M} (F : Fine m) (names bytes : Int) : Fine (m.fall names bytes) := by
  have hk : min names.toNat m.moves.length ≤ m.moves.length := Nat.min_le_right _ _
  have h := F.settle (min names.toNat m.moves.length) hk (nw := ages m.safe (m.moves.take (min names.toNat m.moves.length))) (fl := fallF m.fl (ages m.safe (m.moves.take (min names.toNat m.moves.length))) bytes) rfl rfl
    (Nat.le_trans (tot_fall_le _ _ _ _) (Nat.le_trans (F.bound _ hk) F.bytes))
  exact ⟨(fun h => by cases h), h.named, h.good, h.now, h.room, h.bytes, h.lost.imp fun _ k => ⟨k.nd, k.out, k.all, k.some, k.sum⟩⟩
theorem fall_cells {w w' : World} {q : Nat} {m : M} {nv sv mv : Value} (h : ShAt w q m nv sv mv) (hB : Below w.heap.size w w') : w'.cell? ⟨q, 1, none⟩ = some nv ∧ w'.frozen? ⟨q, 1, none⟩ = false ∧ w'.cell? ⟨q, 4, none⟩ = some (.int .i64 (m.named : Int)) ∧ w'.frozen? ⟨q, 4, none⟩ = false := by
  have h' : ShAt w' q m nv sv mv := (hB.block q h.lt).trans h
  exact ⟨h'.cell 1, h'.fz 1, h'.cell 4, h'.fz 4⟩
theorem fall_chg {w w2 : World} {q : Nat} {v : Value} (hB : Below w.heap.size w w2) : Chg w ((w2.setCell ⟨q, 1, none⟩ v).setCell ⟨q, 4, none⟩ (.int .i64 0)) (fun k => k = q) :=
  (((below_chg hB).wide (R' := fun k => k = q) (fun _ _ h => h.elim)).andThen (chg_set w2 q 1 v) (fun _ _ h => h)).andThen (chg_set _ q 4 (.int .i64 0)) (fun _ _ h => h)
theorem fall_ext {w w2 : World} {T : Nat → Tag} {q : Nat} {v : Value} (hB : Below w.heap.size w w2) (hq : T q = .shelf) :
    Ext w T ((w2.setCell ⟨q, 1, none⟩ v).setCell ⟨q, 4, none⟩ (.int .i64 0)) (fun k => if k < w.heap.size then T k else if mapBlock v = some k then .names else .none) :=
  (fall_chg hB).ext (fun k _ e => by rw [e]; exact tag_ne hq (by intro h; cases h)) (fun k hk => if_pos hk)
theorem fall_names {w w2 w' : World} {T : Nat → Tag} {q : Nat} {m : M} {nv sv nv' : Value} {nn ns : Nat} (R : RepV w T q m nv sv (.slice none 0 0) nn ns) (N : NMv w2 nv' ns m.safe) (hb : ∀ b, mapBlock nv' = some b → w.heap.size ≤ b) (hB : Below w.heap.size w w2)
    (e : w' = (w2.setCell ⟨q, 1, none⟩ nv').setCell ⟨q, 4, none⟩ (.int .i64 0)) :
    RepV w' (fun k => if k < w.heap.size then T k else if mapBlock nv' = some k then .names else .none) q {m with now := m.safe, named := 0} nv' sv (.slice none 0 0) ns ns := by
  subst e
  have h1 : ShAt w2 q m nv sv (.slice none 0 0) := (hB.block q R.sh.lt).trans R.sh
  have h2 := h1.set (m' := {m with now := m.safe}) (nv' := nv') (sv' := sv) (mv' := .slice none 0 0) 1 nv' rfl
  have h3 := h2.set (m' := {m with now := m.safe, named := 0}) (nv' := nv') (sv' := sv) (mv' := .slice none 0 0) 4 (.int .i64 0) rfl
  have hq : ∀ b, mapBlock nv' = some b → ¬ b = q := fun b hb' e => by have := hb b hb'; have := R.sh.lt; omega
  have hN : NMv ((w2.setCell ⟨q, 1, none⟩ nv').setCell ⟨q, 4, none⟩ (.int .i64 0)) nv' ns m.safe := N.at ((chg_set w2 q 1 nv').trans (chg_set _ q 4 (.int .i64 0))) hq
  have hbn := R.bns
  exact R.names_step hN hb (fall_chg hB) h3 ⟨rfl, rfl, rfl, rfl, rfl⟩ R.lsafe (by omega)
theorem maxmin (a : Int) (n : Nat) (hn : (n : Int) < 9223372036854775808) : (if (n : Int) < (if a < 0 then 0 else a) then (n : Int) else (if a < 0 then 0 else a)) = ((min a.toNat n : Nat) : Int) := by
  split <;> split <;> omega
set_option maxRecDepth 4000 in
set_option maxHeartbeats 1000000 in
theorem fall_rep (w : World) (T : Nat → Tag) (q : Nat) (m : M) (names bytes : Int) (R : Rep w T q m) (hd : m.done < 10000000) :
    Calls Tryz.prog 18 #[.pointer (some ⟨q, 0, none⟩), .int .i64 names, .int .i64 bytes] w fun e w' => e = .returned (.tuple #[]) ∧ ∃ T', Rep w' T' q (m.fall names bytes) ∧ Ext w T w' T' := by
  obtain ⟨⟨nv, sv, mv, nn, ns, RV⟩, F⟩ := R
  have hk : min names.toNat m.moves.length ≤ m.moves.length := Nat.min_le_right _ _
  have c35 := settle_rep w T q m nv sv mv nn ns _ RV (by omega) hk
  have hbns := RV.bns
  have hmx := maxmin names m.moves.length (by omega)
  obtain ⟨mx, hx⟩ : ∃ x : Int, (if names < 0 then 0 else names) = x := ⟨_, rfl⟩
  rw [hx] at hmx
  obtain ⟨A, c, rfl⟩ := mv_form RV.mo
  have y3 : w.cell? ⟨q, 3, none⟩ = some (.slice A m.moves.length c) := RV.sh.cell 3
  have HD : Hid (m.fall names bytes = {({m with safe := ages m.safe (m.moves.take (min names.toNat m.moves.length)), moves := [], gone := 0, now := ages m.safe (m.moves.take (min names.toNat m.moves.length)), named := 0} : M) with fl := fallF m.fl (ages m.safe (m.moves.take (min names.toNat m.moves.length))) bytes, named := tot (fallF m.fl (ages m.safe (m.moves.take (min names.toNat m.moves.length))) bytes) (ages m.safe (m.moves.take (min names.toNat m.moves.length))), armed := false, fallen := false}) := rfl
  have HFn : Hid (Fine (m.fall names bytes)) := F.fall names bytes
  have HG := Lib.hid (F.good _ hk)
  have HB := Lib.hid (Nat.le_trans (F.bound _ hk) F.bytes)
  generalize min names.toNat m.moves.length = k at *
  generalize m.moves.length = ml at *
  clear RV F hbns
  generalize ages m.safe (m.moves.take k) = l at *
  go_enter Tryz.func18, Tryz.ntmps18
  go_wp2_with (first
    | (go_at_call 46; refine c35.mono ?_; rintro e w1 ⟨rfl, T1, sv1, RV1, X1⟩; have y2 : w1.cell? ⟨q, 2, none⟩ = some sv1 := RV1.sh.cell 2; have c45 := clone_any w1 sv1 (ns + k) l RV1.sf)
    | (go_at_call 47; refine c45.mono ?_; rintro e w2 ⟨nv2, rfl, N2, M2, B2⟩; obtain ⟨mb2, rfl⟩ := N2.form; obtain ⟨z1, f1, z4, f4⟩ := fall_cells RV1.sh B2)
    | (at_range; have RV2 := fall_names (w' := (w2.setCell ⟨q, 1, none⟩ (.map mb2)).setCell ⟨q, 4, none⟩ (.int .i64 0)) RV1 N2 M2 B2 rfl; have X2 := X1.trans (fall_ext (T := T1) (v := .map mb2) B2 RV1.tq); clear c35 c45 RV1 z1 f1 z4 f4 y2 y3; refine rng_range rfl _ rfl mb2 _ _ rfl RV2.nm ?_; intro w3 lf cnt G3 L3 K3 S3; go_frame)
    | go_in)
  have RV3 := RV2.far (chg_grown K3) (fun _ _ h => by cases h)
  have hsz : ((w2.setCell ⟨q, 1, none⟩ (.map mb2)).setCell ⟨q, 4, none⟩ (.int .i64 0)).heap.size = w2.heap.size := by simp [World.setCell]
  obtain ⟨r, hr⟩ : ∃ r, r = w2.heap.size := ⟨_, rfl⟩
  rw [← hr] at hsz
  have hTr : (fun k => if k < w1.heap.size then T1 k else if mapBlock (.map mb2) = some k then Tag.names else .none) r = .none := RV2.out (k := r) (by omega)
  rw [hsz] at G3
  have e0 := part_start {m with now := l, safe := l, moves := [], fl := m.fl, named := 0, gone := 0} bytes lf L3 rfl
  rw [← e0] at RV3
  rw [← hr]
  generalize (fun k => if k < w1.heap.size then T1 k else if mapBlock (.map mb2) = some k then Tag.names else .none) = T3 at *
  have CA : Chg ((w2.setCell ⟨q, 1, none⟩ (.map mb2)).setCell ⟨q, 4, none⟩ (.int .i64 0)) w3 (fun k => T3 k ≠ .none) := (chg_grown K3).wide (fun _ _ h => by cases h)
  have HX := Lib.hid X2
  generalize (w2.setCell ⟨q, 1, none⟩ (.map mb2)).setCell ⟨q, 4, none⟩ (.int .i64 0) = wA at *
  have HSZ := Lib.hid hsz
  clear RV2 X2 K3 S3 B2 M2 N2 X1 hr e0 L3 hsz
  obtain ⟨m0, hm0⟩ : ∃ m0 : M, m0 = {m with now := l, safe := l, moves := [], fl := m.fl, named := 0, gone := 0} := ⟨_, rfl⟩
  rw [← hm0] at RV3
  have en : l = m0.now := by rw [hm0]
  have ef : m.fl = m0.fl := by rw [hm0]
  have HM := Lib.hid hm0
  rw [en] at G3
  rw [en] at HG
  rw [en, ef] at HB
  have HE := Lib.hid (And.intro en ef)
  obtain ⟨bx, hbx⟩ : ∃ x : Int, (if bytes < 0 then 0 else bytes) = x := ⟨_, rfl⟩
  clear hm0 en ef hmx hx
  go_loopw [7] (fun _ wr => Fin wA wr T3 q m0 mb2 sv1 (ns + k) (ns + k) bytes r) (fun _ wr => rl wr mb2 r)
  case atStart => exact ⟨lf, cnt, G3, RV3, CA⟩
  case round =>
    obtain ⟨lf, cnt, G, RV, C⟩ := hrel
    clear G3 RV3 CA
    have HGr := Lib.hid G
    have hqT := RV.tq
    go_wp2_with (first
      | (at_next; refine rng_next rfl _ rfl mb2 r _ _ _ _ rfl G ?_ ?_)
      | go_in)
    · intro hl0
      have c9 : wr.cell? ⟨q, 9, none⟩ = some (.bool m0.fallen) := RV.sh.cell 9
      have c7 : wr.cell? ⟨q, 7, none⟩ = some (.bool m0.armed) := RV.sh.cell 7
      have f9 := RV.sh.fz 9
      have f7 := RV.sh.fz 7
      have pe := part_end m0 bytes lf (fun p hp => hl0 p.1 p.2 hp)
      have HR := Lib.hid (And.intro RV (And.intro C pe))
      clear RV C pe
      go_wp2
      go_returns
      obtain ⟨RV, C, pe⟩ := HR.out
      have S1 := (RV.sh.set (m' := {m0.part bytes lf with fallen := false}) (nv' := .map mb2) (sv' := sv1) (mv' := .slice none 0 0) 9 (.bool false) rfl).set (m' := {m0.part bytes lf with fallen := false, armed := false}) (nv' := .map mb2) (sv' := sv1) (mv' := .slice none 0 0) 7 (.bool false) rfl
      have C1 := (chg_set wr q 9 (.bool false)).trans (chg_set _ q 7 (.bool false))
      have RV1 := RV.sh_step C1 S1 ⟨rfl, rfl, rfl, rfl⟩ (Nat.le_refl _)
      have hFall : m.fall names bytes = {m0.part bytes lf with fallen := false, armed := false} := by
        rw [pe, HD.out, HM.out]
      exact ⟨rfl, T3, ⟨⟨_, _, _, _, _, by rw [hFall]; exact RV1⟩, HFn.out⟩, (HX.out.trans (C.ext (fun _ _ h => h) (fun _ _ => rfl))).trans (C1.ext (fun k _ e => by rw [e]; exact tag_ne hqT (by intro h; cases h)) (fun _ _ => rfl))⟩
    · intro x c' w4 cnt' hlx hmem G4 hlt hg4 hen
      have hT : T3 c' = .file := RV.lnow _ hmem
      obtain ⟨pe1, pe2⟩ := part_step m0 bytes lf HG.out x c' hmem hlx
      have RV4 := RV.far (chg_grown hg4) (fun k hk e => hk (by injection e with e; rw [← e]; exact hTr))
      obtain ⟨v, k1, k2, k3, k4⟩ := RV4.fl c' hT
      rw [pe1] at k1 k2 k4
      have hnb := part_named_le m0 bytes lf
      have hlb := tot_le (fl := m0.fl) hmem
      have hbnd := HB.out
      have hbx2 : (if (((m0.fl c').1.length - (m0.fl c').2 : Nat) : Int) < bx then (((m0.fl c').1.length - (m0.fl c').2 : Nat) : Int) else bx) = ((min bytes.toNat ((m0.fl c').1.length - (m0.fl c').2) : Nat) : Int) := by
        rw [← hbx]; exact maxmin bytes _ (by omega)
      have hkp : left (m0.fl c') bytes = (m0.fl c').2 + min bytes.toNat ((m0.fl c').1.length - (m0.fl c').2) := rfl
      have hll := left_le (m0.fl c') bytes k4
      obtain ⟨A2, cp, rfl, _, _, _, _⟩ := k2.form
      have d0 := k1.cell0
      have d1 := k1.cell1
      generalize hY : m0.fl c' = Y at *
      obtain ⟨yp, ys⟩ := Y
      simp only at *
      have HKE : Hid (kept (yp, ys) bytes = (yp.take (left (yp, ys) bytes), left (yp, ys) bytes)) := rfl
      generalize left (yp, ys) bytes = kp at *
      generalize min bytes.toNat (yp.length - ys) = mn at *
      have hwsub : IntKind.i64.wrap ((yp.length : Int) - (ys : Int)) = ((yp.length - ys : Nat) : Int) := by rw [IntKind.wrap_i64] <;> omega
      have hwadd : IntKind.i64.wrap ((ys : Int) + (mn : Int)) = (kp : Int) := by rw [IntKind.wrap_i64] <;> omega
      obtain ⟨pn, hpn⟩ : ∃ pn, pn = (m0.part bytes lf).named := ⟨_, rfl⟩
      rw [← hpn] at hnb
      have hwn : IntKind.i64.wrap ((pn : Int) + (kp : Int)) = ((pn + kp : Nat) : Int) := by rw [IntKind.wrap_i64] <;> omega
      have hvb : (Value.slice A2 yp.length cp).ownBlock ≠ some c' := by intro e; have := k3 c' e; rw [hT] at this; cases this
      have hcq : c' ≠ q := by intro e; rw [e, hqT] at hT; cases hT
      have c46 := keep_any w4.drew c' _ ys yp kp k1 k2 hvb hll
      have HPE := Lib.hid pe2
      have HPN := Lib.hid hpn
      have HRV := Lib.hid RV4
      have HK3 := Lib.hid k3
      have HG4 := Lib.hid G4
      have HCC := Lib.hid C
      have HT := Lib.hid hT
      have Hg4 := Lib.hid hg4
      have HLEN : Hid ((yp.take kp).length = kp) := by show _ = _; rw [List.length_take]; omega
      clear pe1 pe2 hpn RV4 k3 G4 C RV G hT hg4 k1 k2 hnb hlb hbnd hkp
      generalize yp.length - ys = dd at *
      generalize yp.length = pl at *
      go_wp2
      refine wp_region_still_tail 19 (by kernel_rfl) (by kernel_rfl) ?_
      simp only [List.take_succ_cons, List.take_zero, List.drop_succ_cons, List.drop_zero]
      change wpStill _ _ w4.drew (fun a' => wpList _ _ _ _ a' w4.drew) _ _
      have d0 : w4.drew.cell? ⟨c', 0, none⟩ = some (.slice A2 pl cp) := d0
      have d1 : w4.drew.cell? ⟨c', 1, none⟩ = some (.int .i64 (ys : Int)) := d1
      have HRVd := Lib.hid (HRV.out.far (chg_drewN (Chg.refl w4 (fun _ => False)) 1) (fun _ _ h => h))
      have HGd := Lib.hid (HG4.out.kept (w' := w4.drew) (row := none) ⟨rfl, rfl, rfl, Nat.le_refl _, fun _ _ _ => rfl⟩ (fun _ _ => by simp) (by simp))
      repeat still_step
      refine wpStill_nil ?_
      go_wp2_with (first | (go_at_call 48; refine c46.mono ?_; rintro e w6 ⟨rfl, v', F6, O6, B6, G6⟩) | go_in)
      have G6' : w4.grownBy w6 (some c') := ⟨G6.os, G6.tape, G6.output, G6.size, G6.block⟩
      have RV6 := HRVd.out.file_same (x := kept (yp, ys) bytes) HT.out HK3.out ((chg_of_grown G6).wide (fun _ _ h => Or.inl h)) (by rw [HKE.out]; exact F6) (by rw [HKE.out]; exact O6) B6 (by rw [HKE.out]; exact Nat.le_of_eq HLEN.out.symm)
      obtain ⟨A3, cp3, rfl, _, _, _, _⟩ := O6.form
      rw [HLEN.out] at F6
      have e0 : w6.drew.cell? ⟨c', 0, none⟩ = some (.slice A3 kp cp3) := F6.cell0
      have q4 : w6.drew.cell? ⟨q, 4, none⟩ = some (.int .i64 (pn : Int)) := by rw [HPN.out]; exact RV6.sh.cell 4
      have qf : w6.drew.frozen? ⟨q, 4, none⟩ = false := RV6.sh.fz 4
      have S8 := RV6.sh.set (m' := {(m0.part bytes lf).file c' (kept (yp, ys) bytes) with named := pn + kp}) (nv' := .map mb2) (sv' := sv1) (mv' := .slice none 0 0) 4 (.int .i64 ((pn + kp : Nat) : Int)) rfl
      have RV8 : RepV (w6.drew.setCell ⟨q, 4, none⟩ (.int .i64 ((pn + kp : Nat) : Int))) T3 q _ _ _ _ _ _ := RV6.sh_step (chg_dset w6 q 4 (.int .i64 ((pn + kp : Nat) : Int))) S8 ⟨rfl, rfl, rfl, rfl⟩ (Nat.le_refl _)
      have hEq : {(m0.part bytes lf).file c' (kept (yp, ys) bytes) with named := pn + kp} = m0.part bytes (fun z => lf z && !z.sameKey (.string x)) := by
        rw [HPE.out, HPN.out, HKE.out]
        simp only
        rw [HLEN.out]
      rw [hEq] at RV8
      have hmq : ∀ b, mb2 = some b → b ≠ c' ∧ b ≠ q := fun b hb => by
        have h1 := HRV.out.tn b (by rw [hb]; rfl)
        refine ⟨fun e => ?_, fun e => ?_⟩
        · rw [e, HT.out] at h1; cases h1
        · rw [e, hqT] at h1; cases h1
      have hrq : r ≠ c' ∧ r ≠ q := by
        refine ⟨fun e => ?_, fun e => ?_⟩
        · rw [e, HT.out] at hTr; cases hTr
        · rw [e, hqT] at hTr; cases hTr
      have G8 := (HG4.out.kept G6' (fun b hb e => (hmq b hb).1 (by injection e)) (fun e => hrq.1 (by injection e))).kept (grown_dset w6 q 4 (.int .i64 ((pn + kp : Nat) : Int))) (fun b hb e => (hmq b hb).2 (by injection e)) (fun e => hrq.2 (by injection e))
      have C8 : Chg wA (w6.drew.setCell ⟨q, 4, none⟩ (.int .i64 ((pn + kp : Nat) : Int))) (fun k => T3 k ≠ .none) :=
        ((HCC.out.andThen (chg_grown Hg4.out) (fun i hi e => by injection e with e; have := HSZ.out; omega)).andThen (chg_of_grown G6') (fun i _ e => by rw [e]; exact tag_ne HT.out (by intro h; cases h))).andThen (chg_dset w6 q 4 (.int .i64 ((pn + kp : Nat) : Int))) (fun i _ e => by rw [e]; exact tag_ne hqT (by intro h; cases h))
      have H8 := Lib.hid (And.intro RV8 (And.intro G8 C8))
      have H9 := Lib.hid hlt
      clear RV6 S8 RV8 G8 C8 F6 O6 B6 G6 G6' HGd HRVd hlt hmq
      refine wp_region_still_tail 12 (by kernel_rfl) (by kernel_rfl) ?_
      simp only [List.take_succ_cons, List.take_zero, List.drop_succ_cons, List.drop_zero]
      change wpStill _ _ w6.drew (fun a' => wpList _ _ _ _ a' w6.drew) _ _
      repeat still_step
      refine wpStill_nil ?_
      go_wp2
      exact ⟨⟨_, cnt', H8.out.2.1, H8.out.1, H8.out.2.2⟩, Nat.lt_of_le_of_lt (Nat.le_of_eq H8.out.2.1.rl) (by rw [HGr.out.rl]; exact H9.out)⟩
end Go.Proofs.YtdbhgkbmbbjpdaaGreatDoor.Shf
