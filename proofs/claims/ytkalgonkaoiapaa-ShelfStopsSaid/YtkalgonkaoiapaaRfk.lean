/- The document's own shelf: Append. -/
import Derived.Test.YtkalgonkaoiapaaRfl
import Derived.Test.YtkalgonkaoiapaaRfj
namespace Go.Proofs.Ytkalgonkaoiapaa.Shf
open Go.ChangeShapes Go.WideShapes Go.ChangeAt Go.RowKit

theorem isSl_mk (A : Option Addr) (n c : Nat) : isSl (.slice A n c) := ⟨A, n, c, rfl⟩
theorem rdn_below {w W : World} {T : Nat → Tag} {A : Option Addr} {l : List UInt8} (h : RdN w T A l) (B : Below w.heap.size w W) : Rd W A l := fun h0 => by
  obtain ⟨ad, e, hc⟩ := h.1 h0
  have hb := (h.2 h0 ad e).2
  exact ⟨ad, e, fun j hj => (B.cell (p := ad.add j) (by unfold Addr.add; split <;> exact hb)).trans (hc j hj)⟩
theorem info5' : (Try.prog.info? 5).map (fun i => (i.zero, i.size, i.bytes)) = some (some (.int .u8 0), 1, 1) := by kernel_rfl
/-- 'append' of bytes that came in. -/
theorem wpList_app5 {ops : Array Oper} {rest : List Oper} {o : Oper} {a : Act} {w : World} {Q : Exit → Act → World → Prop} (hgd : o.guard = none) (s x : Operand)
    (ho : o.op = .call { callee := .builtin .append, args := #[s, x], argTypes := #[22, 22] })
    (base : Nat) (v : Value) (n : Nat) (xs : List Value) (hs : a.eval s = v) (hown : w.ownsRow base 5 1 v n xs)
    (A : Option Addr) (m c : Nat) (p : List UInt8) (hx : a.eval x = .slice A m c) (hm : m = p.length) (R : Rd w A p) (hA : A = none → c = 0) (hle : m ≤ c)
    (h63 : n + m ≤ 3000000) (hbase : base ≤ w.heap.size)
    (h : ∀ v' w', w'.ownsRow base 5 1 v' (n + m) (xs ++ p.map b8) → w.grownBy w' v.ownBlock → wpList Try.prog ops Q rest (a.put o.dst v') w') :
    wpList Try.prog ops Q (o :: rest) a w := by
  obtain ⟨i0, hi, hz0, hz1, hz2⟩ := info_parts info5'
  cases A with
  | none =>
    obtain rfl := hA rfl
    obtain rfl : m = 0 := by omega
    obtain rfl : p = [] := List.eq_nil_of_length_eq_zero hm.symm
    refine wpList_append_own_none hgd s x 22 ho base 5 i0 1 Try.underlying22 hi v n xs hs hown hx (h v w (by simpa using hown) ?_)
    exact ⟨rfl, rfl, rfl, Nat.le_refl _, fun _ _ _ => rfl⟩
  | some ad =>
    refine wpList_append_own_at w hgd s x 22 ho base 5 i0 (.int .u8 0) 1 1 Try.underlying22 hi hz0 hz1 hz2 rfl (by decide) v n xs hs hown ad m c (p.map b8) hx (by simp [hm]) ?_ (by intro u hu; obtain ⟨b, _, rfl⟩ := List.mem_map.1 hu; rfl) (by unfold maxLen; omega) (by omega) hbase fun v' w' o1 o2 _ _ => h v' w' o1 o2
    intro j u hj
    have hj' : j < p.length := by have := (List.getElem?_eq_some_iff.1 hj).1; simpa using this
    obtain ⟨ad', e, hc⟩ := R (by omega)
    obtain rfl : ad = ad' := by injection e
    rw [hc j hj', ← hj]
    simp [hj']
theorem past3 {w2 w3 w4 : World} {e : TypeId} {sz n : Nat} {v1 : Value} {us : List Value} (h : w3.ownsRow w2.heap.size e sz v1 n us) (g1 : w2.grownBy w3 none) (g2 : w3.grownBy w4 v1.ownBlock) : Below w2.heap.size w2 w4 := by
  have b3 : Below w2.heap.size w2 w3 := (Below.refl _ w2).grown g1 (Nat.le_refl _) (fun k h => by cases h)
  exact b3.grown g2 b3.size (fun k hk => (World.ownsRow.lt h k hk).1)

def X.append (x : X) (s p : S) : X × Int := if x.stop then (x.act, 7) else match get x.now s with | none => (x.act, 2) | some f => if x.room < (x.used : Int) + (p.length : Int) then (x.act, 3) else ({ x.act with L := x.L.set f ((x.L.getD f ([], 0)).1 ++ p, (x.L.getD f ([], 0)).2) }, 0)
set_option maxRecDepth 4000 in
set_option maxHeartbeats 2000000 in
theorem xappend_any (w : World) (T : Nat → Tag) (v : Value) (x : X) (s p : S) (Ax : Option Addr) (cx : Nat) (h : RXE w T v x) (F : x.Fits) (hT : ∀ b, T b ≠ .none → b < w.heap.size) (G : x.Good) (hL : ∀ p ∈ x.L, p.1.length ≤ 1000000) (hW : ∀ l ∈ x.was, l.length ≤ 1000000) (RP : RdN w T Ax p) (hAx : Ax = none → cx = 0) (hlx : p.length ≤ cx) (hpl : p.length ≤ 1000) :
    Calls Try.prog 38 #[v, .string (str s), .slice Ax p.length cx] w fun e w' =>
      ∃ v', e = .returned (.tuple #[v', .int .i64 (x.append s p).2]) ∧ RXE w' T v' (x.append s p).1 ∧ Below w.heap.size w w' := by
  obtain ⟨lv, nv, wv, fs, ws, R⟩ := h
  have c55 := fun W => xact_any W lv nv wv x.room x.left x.off x.done R.fl.sl R.nm.isSl R.wa.sl F.done F.left
  have c49 := fun W (K : Keep w T W T) => find_any W T nv x.now s (R.nm.keep K) F.now
  have hgf : ∀ f, get x.now s = some f → f < x.L.length := fun f h => G.now _ (got_mem h)
  clear G
  have HR := Lib.hid R
  have HT := Lib.hid (fun b (hb : w.heap.size ≤ b) => show T b = .none by
    cases e : T b with
    | none => rfl
    | _ => exact absurd (hT b (by rw [e]; intro h; cases h)) (by omega))
  have HF := Lib.hid F
  obtain ⟨A1, n1, c1, e1⟩ := R.fl.sl
  obtain ⟨A2, n2, c2, e2⟩ := R.nm.isSl
  obtain ⟨A3, n3, c3, e3⟩ := R.wa.sl
  rw [R.eq]
  clear R hT F
  subst e1 e2 e3
  obtain ⟨L, now, was, room, left, off, done⟩ := x
  simp only at c55 c49 hgf hL hW ⊢
  have c48 := fun W (B : Below w.heap.size w W) l' d' => xused_any W T (RfV (.slice A1 n1 c1) (.slice A2 n2 c2) (.slice A3 n3 c3) room l' off d') ⟨L, now, was, room, l', off, d'⟩ ⟨_, _, _, fs, ws, { HR.out.keep (Shf.Below.keep B T) with eq := rfl }⟩ HF.out.fl HF.out.was hL hW
  have hU := usedT_le L was hL L.length
  have hLl : L.length ≤ 1000000 := HF.out.fl
  have hU2 : usedT L was L.length ≤ 1000000000000 := Nat.le_trans hU (by omega)
  clear hU
  unfold X.used at c48
  simp only at c48
  unfold RfV at c48 c55 ⊢
  have HRP := Lib.hid RP
  obtain ⟨lx, hlxx⟩ : ∃ n, n = p.length := ⟨_, rfl⟩
  rw [← hlxx] at hlx hpl ⊢
  have HLX := Lib.hid hlxx
  clear RP hlxx hW
  obtain ⟨nmv, hnmv⟩ : ∃ n, n = str s := ⟨_, rfl⟩
  rw [← hnmv] at c49 ⊢
  have HS := Lib.hid hnmv
  clear hnmv
  by_cases hs : off = true ∨ left = 0
  · have hs' : (X.mk L now was room left off done).stop := hs
    have HA : Hid ((X.mk L now was room left off done).act = ⟨L, now, was, room, left, true, done⟩) := if_pos hs'
    rw [show (X.mk L now was room left off done).append s p = (_, 7) from if_pos hs', HA.out]
    rw [if_pos hs, decide_eq_true hs] at c55
    clear hs hs' HA c49 hgf c48 hU2 hL
    go_enter Try.func38, Try.ntmps38
    go_wp2_with (first
      | (go_at_call 55; (with_reducible refine (c55 _).mono ?_); rintro e w1 ⟨rfl, B1⟩; obtain ⟨D1, D2, D3⟩ := kept2 B1; have HD := Lib.hid (And.intro D1 (And.intro D2 D3)); clear B1 D1 D2 D3 c55)
      | (refine wpList_put35 rfl _ _ rfl w.heap.size rfl HD.out.1 rfl ?_; intro w2 E1 G2; have E2 := (G2.block (w.heap.size + 1) (Array.getElem?_eq_some_iff.1 HD.out.2.1).1 (by simp)).trans HD.out.2.1; have HE := Lib.hid (And.intro E1 (And.intro E2 (HD.out.2.2.grown G2 HD.out.2.2.size (fun k h => by cases h; exact Nat.le_refl _)))); obtain ⟨p0, p1, p2, p3, p4, p5, p6, pf⟩ := row7 E1; clear E1 E2 G2 pf)
      | (refine wpList_put35 rfl _ _ rfl (w.heap.size + 1) rfl HE.out.2.1 rfl ?_; intro w3 E3 G3; have HH := Lib.hid (And.intro E3 (HE.out.2.2.grown G3 HE.out.2.2.size (fun k h => by cases h; omega))); clear E3 G3 p0 p1 p2 p3 p4 p5 p6)
      | go_in)
    (try simp only [Exit.inBlock, Exit.then])
    refine bodyPost_ret (res35_tmp rfl _ _ (w.heap.size + 1) 35 _ (0, 0) rfl HH.out.1 rfl) rfl ?_
    exact ⟨_, rfl, ⟨_, _, _, fs, ws, { HR.out.keep (Shf.Below.keep HH.out.2 T) with eq := rfl }⟩, HH.out.2⟩
  · have hs' : ¬ (X.mk L now was room left off done).stop := hs
    have HA : Hid ((X.mk L now was room left off done).act = ⟨L, now, was, room, (if 0 < left then left - 1 else left), off, done + 1⟩) := if_neg hs'
    rw [if_neg hs, decide_eq_false hs] at c55
    cases hg : get now s with
    | none =>
      rw [show (X.mk L now was room left off done).append s p = (_, 2) from (if_neg hs').trans (by rw [hg]), HA.out]
      rw [show findI now s = -1 by unfold findI; rw [hg]] at c49
      generalize (if 0 < left then left - 1 else left) = left' at *
      generalize done + 1 = done' at *
      clear hs hs' HA hg c48 hU2 hL
      go_enter Try.func38, Try.ntmps38
      go_wp2_with (first
        | (go_at_call 55; (with_reducible refine (c55 _).mono ?_); rintro e w1 ⟨rfl, B1⟩; obtain ⟨D1, D2, D3⟩ := kept2 B1; have HD := Lib.hid (And.intro D1 (And.intro D2 D3)); clear B1 D1 D2 D3 c55)
        | (refine wpList_put35 rfl _ _ rfl w.heap.size rfl HD.out.1 rfl ?_; intro w2 E1 G2; have E2 := (G2.block (w.heap.size + 1) (Array.getElem?_eq_some_iff.1 HD.out.2.1).1 (by simp)).trans HD.out.2.1; have HE := Lib.hid (And.intro E1 (And.intro E2 (HD.out.2.2.grown G2 HD.out.2.2.size (fun k h => by cases h; exact Nat.le_refl _)))); obtain ⟨p0, p1, p2, p3, p4, p5, p6, pf⟩ := row7 E1; clear E1 E2 G2 pf)
        | (go_at_call 49; (with_reducible refine (c49 w2 (Shf.Below.keep HE.out.2.2 T)).mono ?_); rintro e w5 ⟨rfl, rfl⟩; clear c49)
        | (refine wpList_put35 rfl _ _ rfl (w.heap.size + 1) rfl HE.out.2.1 rfl ?_; intro w3 E3 G3; have HH := Lib.hid (And.intro E3 (HE.out.2.2.grown G3 HE.out.2.2.size (fun k h => by cases h; omega))); clear E3 G3 p0 p1 p2 p3 p4 p5 p6)
        | go_in)
      (try simp only [Exit.inBlock, Exit.then])
      refine bodyPost_ret (res35_tmp rfl _ _ (w.heap.size + 1) 35 _ (0, 0) rfl HH.out.1 rfl) rfl ?_
      exact ⟨_, rfl, ⟨_, _, _, fs, ws, { HR.out.keep (Shf.Below.keep HH.out.2 T) with eq := rfl }⟩, HH.out.2⟩
    | some f =>
      have hLf : f < L.length := hgf f hg
      have hfl : f < fs.length := by rw [HR.out.by_.len]; exact hLf
      have hgD : L.getD f ([], 0) = L[f] := by rw [List.getD_eq_getElem?_getD, List.getElem?_eq_getElem hLf]; rfl
      have hlf9 := hL L[f] (List.getElem_mem hLf)
      rw [show (X.mk L now was room left off done).append s p = (if room < (usedT L was L.length : Int) + (lx : Int) then (_, 3) else (_, 0)) from (if_neg hs').trans (by rw [hg, HLX.out]; rfl), HA.out]
      rw [show findI now s = (f : Int) by unfold findI; rw [hg]] at c49
      rw [hgD]
      have hfs9 : fs.length ≤ 1000000 := by rw [HR.out.by_.len]; exact HF.out.fl
      have hisl : ∀ p ∈ fs, isSl p.1 := HR.out.by_.left fun a b h => h.1.sl
      have c58 := fun W (K : Keep w T W T) l' d' pv z (hpv : isSl pv) => changed_any W T (.slice A1 n1 c1) (.slice A2 n2 c2) (.slice A3 n3 c3) pv room l' off d' f z fs hpv ⟨A2, n2, c2, rfl⟩ ⟨A3, n3, c3, rfl⟩ (HR.out.fl.keep K) hisl hfl hfs9 (fun b hb => by
        rcases Nat.lt_or_ge b w.heap.size with h | h
        · exact Nat.lt_of_lt_of_le h K.size
        · exact absurd (HT.out b h) hb)
      unfold RfV at c58
      obtain ⟨g1, hA1, hn1, hc1, hgl, FC⟩ := RSl.fil HR.out.fl f hfl
      subst hA1
      have hby := HR.out.by_.at f hfl hLf
      have hz := hby.2
      have RB := hby.1
      obtain ⟨Ap, cp, hp, hpc, hpn⟩ := hby.1.form
      rw [hp, hz] at FC
      rw [hp] at RB
      have hfn : (f : Int) < (n1 : Int) := by omega
      have HN1 := Lib.hid hn1
      clear hn1
      obtain ⟨lp, hlp⟩ : ∃ lp, lp = (L[f].1).length := ⟨_, rfl⟩
      rw [← hlp] at FC hpc
      obtain ⟨zp, hzp⟩ : ∃ zp : Int, zp = L[f].2 := ⟨_, rfl⟩
      rw [← hzp] at FC
      have HLP := Lib.hid (And.intro hlp hzp)
      have HB := Lib.hid RB
      have FC : Hid (∀ W, Below w.heap.size w W → W.cell? ⟨g1, f * 2, none⟩ = some (.slice Ap lp cp) ∧ W.cell? ⟨g1, f * 2 + 1, none⟩ = some (.int .i64 zp)) := FC
      generalize (if 0 < left then left - 1 else left) = left' at *
      generalize done + 1 = done' at *
      generalize usedT L was L.length = U at *
      have hf0 : ¬ (f : Int) < 0 := by omega
      have hf00 : (0 : Int) ≤ f := by omega
      have hUw : IntKind.i64.wrap ((U : Int) + (lx : Int)) = (U : Int) + lx := by rw [IntKind.wrap_i64]; omega
      have hlp9 : lp ≤ 1000000 := by rw [hlp]; exact hlf9
      have C48 : Hid _ := c48
      have C58 : Hid _ := c58
      clear hs hs' HA hg hgf hby hz hp RB hlp hzp hisl hgD hL c48 c58 hlf9
      by_cases hroom : room < (U : Int) + (lx : Int)
      · rw [if_pos hroom]
        go_enter Try.func38, Try.ntmps38
        go_wp2_with (first
          | (go_at_call 55; (with_reducible refine (c55 _).mono ?_); rintro e w1 ⟨rfl, B1⟩; obtain ⟨D1, D2, D3⟩ := kept2 B1; have HD := Lib.hid (And.intro D1 (And.intro D2 D3)); clear B1 D1 D2 D3 c55)
          | (refine wpList_put35 rfl _ _ rfl w.heap.size rfl HD.out.1 rfl ?_; intro w2 E1 G2; have E2 := (G2.block (w.heap.size + 1) (Array.getElem?_eq_some_iff.1 HD.out.2.1).1 (by simp)).trans HD.out.2.1; have HE := Lib.hid (And.intro E1 (And.intro E2 (HD.out.2.2.grown G2 HD.out.2.2.size (fun k h => by cases h; exact Nat.le_refl _)))); obtain ⟨p0, p1, p2, p3, p4, p5, p6, pf⟩ := row7 E1; clear E1 E2 G2 pf)
          | (go_at_call 49; (with_reducible refine (c49 w2 (Shf.Below.keep HE.out.2.2 T)).mono ?_); rintro e w5 ⟨rfl, rfl⟩; have l1 := (Array.getElem?_eq_some_iff.1 HE.out.1).1; have l2 := (Array.getElem?_eq_some_iff.1 HE.out.2.1).1; have l3 : ¬ w.heap.size = w2.heap.size := (by omega); have l4 : ¬ w2.heap.size = w.heap.size := (by omega); have l5 : ¬ w.heap.size + 1 = w2.heap.size := (by omega); have l6 : ¬ w2.heap.size = w.heap.size + 1 := (by omega); clear c49)
          | go_in)
        refine wp_region_noPanic ?_
        refine wp_region_held_drew (S := fun x : World => Below w.heap.size w x ∧ x.heap[w.heap.size]? = some (.cells #[.slice (some ⟨g1, 0, none⟩) n1 c1, .slice A2 n2 c2, .slice A3 n3 c3, .int .i64 room, .int .i64 left', .bool off, .int .i64 done'] 35)) (by kernel_rfl) ⟨HE.out.2.2.drew, HE.out.1⟩ (fun hHeld => ?_)
        refine wpAnyH_take (i := 0) (oi := { dst := some 27, op := Op.load 35 (Operand.tmp 3), type := 35, pos := "ref.go:144", after := #[], guard := none }) (v := .agg #[.slice (some ⟨g1, 0, none⟩) n1 c1, .slice A2 n2 c2, .slice A3 n3 c3, .int .i64 room, .int .i64 left', .bool off, .int .i64 done']) rfl (by kernel_rfl) (by kernel_rfl) (by kernel_rfl) (fun _ _ _ h => h) (Or.inl ⟨by rfl, fun w hSw => by obtain ⟨y0, y1, y2, y3, y4, y5, y6, -⟩ := row7 hSw.2; go_simp⟩) (by assumption) ?_
        try simp only [Act.put, List.setIfInBounds_toArray, List.set_cons_zero, List.set_cons_succ]
        refine wpAnyH_take (i := 2) (oi := { dst := some 29, op := Op.move (Operand.tmp 2), type := 22, pos := "ref.go:144", after := #[], guard := none }) (v := .slice Ax lx cx) rfl (by kernel_rfl) (by kernel_rfl) (by kernel_rfl) (fun _ _ _ h => h) (Or.inl ⟨by rfl, fun w hSw => by go_simp⟩) (by assumption) ?_
        try simp only [Act.put, List.setIfInBounds_toArray, List.set_cons_zero, List.set_cons_succ]
        refine wpAnyH_take (i := 3) (oi := { dst := some 30, op := Op.call { callee := Callee.builtin Builtin.len, args := #[Operand.tmp 29], argTypes := #[22] }, type := 3, pos := "ref.go:144", after := #[{ on := 2, ground := Ground.data }], guard := none }) (v := .int .i64 (lx : Int)) rfl (by kernel_rfl) (by kernel_rfl) (by kernel_rfl) (fun _ _ _ h => h) (Or.inl ⟨by rfl, fun w hSw => by go_simp⟩) (by assumption) ?_
        try simp only [Act.put, List.setIfInBounds_toArray, List.set_cons_zero, List.set_cons_succ]
        refine wpAnyH_take (i := 5) (oi := { dst := some 32, op := Op.fieldAddr 35 (Operand.tmp 3) 3, type := 0, pos := "ref.go:144", after := #[], guard := none }) (v := .pointer (some ⟨w.heap.size, 3, none⟩)) rfl (by kernel_rfl) (by kernel_rfl) (by kernel_rfl) (fun _ _ _ h => h) (Or.inl ⟨by rfl, fun w hSw => by go_simp⟩) (by assumption) ?_
        try simp only [Act.put, List.setIfInBounds_toArray, List.set_cons_zero, List.set_cons_succ]
        refine wpAnyH_take (i := 6) (oi := { dst := some 33, op := Op.load 3 (Operand.tmp 32), type := 3, pos := "ref.go:144", after := #[{ on := 5, ground := Ground.data }], guard := none }) (v := .int .i64 room) rfl (by kernel_rfl) (by kernel_rfl) (by kernel_rfl) (fun _ _ _ h => h) (Or.inl ⟨by rfl, fun w hSw => by obtain ⟨y0, y1, y2, y3, y4, y5, y6, -⟩ := row7 hSw.2; go_simp⟩) (by assumption) ?_
        try simp only [Act.put, List.setIfInBounds_toArray, List.set_cons_zero, List.set_cons_succ]
        refine wpAnyH_ready (rs := [1]) (by kernel_rfl) (by simp) ?_
        refine AllReadyH.cons (o := { dst := some 28, op := Op.call { callee := Callee.value (Operand.func 48), args := #[Operand.tmp 27], argTypes := #[35] }, type := 3, pos := "ref.go:144", after := #[{ on := 0, ground := Ground.data }], guard := none }) rfl (fun K hK => ?_) AllReadyH.nil
        go_simp
        refine (C48.out _ hHeld.1 left' done').mono ?_
        rintro e w6 ⟨rfl, B6⟩
        have M6 := (B6.block _ (Array.getElem?_eq_some_iff.1 HE.out.2.1).1).trans HE.out.2.1
        refine hK.out _ _ (⟨hHeld.1.trans (B6.mono hHeld.1.size), (B6.block _ (Array.getElem?_eq_some_iff.1 hHeld.2).1).trans hHeld.2⟩) (fun hHeld => ?_)
        clear hK K
        try simp only [Act.put, List.setIfInBounds_toArray, List.set_cons_zero, List.set_cons_succ]
        have K6 : Hid (Below w.heap.size w w6) := hHeld.1
        have N6 := hHeld.2
        refine wpAnyH_take (i := 4) (oi := { dst := some 31, op := Op.binOp BinOp.add 3 (Operand.tmp 28) (Operand.tmp 30) 3, type := 3, pos := "ref.go:144", after := #[{ on := 1, ground := Ground.data }, { on := 3, ground := Ground.data }], guard := none }) (v := .int .i64 ((U : Int) + (lx : Int))) rfl (by kernel_rfl) (by kernel_rfl) (by kernel_rfl) (fun _ _ _ h => h) (Or.inl ⟨by rfl, fun w hSw => by go_simp⟩) (by assumption) ?_
        try simp only [Act.put, List.setIfInBounds_toArray, List.set_cons_zero, List.set_cons_succ]
        refine wpAnyH_take (i := 7) (oi := { dst := some 34, op := Op.binOp BinOp.gtr 3 (Operand.tmp 31) (Operand.tmp 33) 3, type := 4, pos := "ref.go:144", after := #[{ on := 4, ground := Ground.data }, { on := 6, ground := Ground.data }], guard := none }) (v := .bool true) rfl (by kernel_rfl) (by kernel_rfl) (by kernel_rfl) (fun _ _ _ h => h) (Or.inl ⟨by rfl, fun w hSw => by go_simp⟩) (by assumption) ?_
        try simp only [Act.put, List.setIfInBounds_toArray, List.set_cons_zero, List.set_cons_succ]
        refine wpAnyH_done (by kernel_rfl) ?_ _
        try unfold NoPanic
        obtain ⟨q0, q1, q2, q3, q4, q5, q6, -⟩ := row7 N6
        go_wp2_with (first
          | (refine wpList_put35 (x0 := .slice none 0 0) (x1 := .slice none 0 0) (x2 := .slice none 0 0) (x3 := .int .i64 0) (x4 := .int .i64 0) (x5 := .bool false) (x6 := .int .i64 0) rfl _ _ rfl (w.heap.size + 1) rfl M6 rfl ?_; intro w3 E3 G3; have HH := Lib.hid (And.intro E3 (K6.out.grown G3 K6.out.size (fun k h => by cases h; omega))); clear E3 G3)
          | go_in)
        (try simp only [Exit.inBlock, Exit.then])
        refine bodyPost_ret (res35_tmp rfl _ _ (w.heap.size + 1) 35 _ (0, 0) rfl HH.out.1 rfl) rfl ?_
        exact ⟨_, rfl, ⟨_, _, _, fs, ws, { HR.out.keep (Shf.Below.keep HH.out.2 T) with eq := rfl }⟩, HH.out.2⟩
      · rw [if_neg hroom]
        obtain ⟨nq, hnq⟩ : ∃ n, n = lp + lx := ⟨_, rfl⟩
        have HNQ := Lib.hid hnq
        have hnq9 : nq ≤ 1001000 := by omega
        clear hnq
        obtain ⟨i0, hi, hz0, hz1, hz2⟩ := info_parts info5'
        have HI := Lib.hid (And.intro hi (And.intro hz0 (And.intro hz1 hz2)))
        clear hi hz0 hz1 hz2
        have hB0 : RSl w T (.slice Ap lp cp) 1 lp (L[f].1.map b8) := by have h := HB.out; unfold RBy at h; rw [← HLP.out.1] at h; exact h
        have HB0 := Lib.hid hB0
        have HW : Hid (∀ u ∈ L[f].1.map b8, u.oneCell' = true) := by intro u hu; obtain ⟨b, _, rfl⟩ := List.mem_map.1 hu; rfl
        clear hB0
        go_enter Try.func38, Try.ntmps38
        go_wp2_with (first
          | (go_at_call 55; (with_reducible refine (c55 _).mono ?_); rintro e w1 ⟨rfl, B1⟩; obtain ⟨D1, D2, D3⟩ := kept2 B1; have HD := Lib.hid (And.intro D1 (And.intro D2 D3)); clear B1 D1 D2 D3 c55)
          | (refine wpList_put35 rfl _ _ rfl w.heap.size rfl HD.out.1 rfl ?_; intro w2 E1 G2; have E2 := (G2.block (w.heap.size + 1) (Array.getElem?_eq_some_iff.1 HD.out.2.1).1 (by simp)).trans HD.out.2.1; have HE := Lib.hid (And.intro E1 (And.intro E2 (HD.out.2.2.grown G2 HD.out.2.2.size (fun k h => by cases h; exact Nat.le_refl _)))); obtain ⟨p0, p1, p2, p3, p4, p5, p6, pf⟩ := row7 E1; clear E1 E2 G2 pf)
          | (go_at_call 49; (with_reducible refine (c49 w2 (Shf.Below.keep HE.out.2.2 T)).mono ?_); rintro e w5 ⟨rfl, rfl⟩; have l1 := (Array.getElem?_eq_some_iff.1 HE.out.1).1; have l2 := (Array.getElem?_eq_some_iff.1 HE.out.2.1).1; have l3 : ¬ w.heap.size = w2.heap.size := (by omega); have l4 : ¬ w2.heap.size = w.heap.size := (by omega); have l5 : ¬ w.heap.size + 1 = w2.heap.size := (by omega); have l6 : ¬ w2.heap.size = w.heap.size + 1 := (by omega); clear c49)
          | go_in)
        refine wp_region_noPanic ?_
        refine wp_region_held_drew (S := fun x : World => Below w.heap.size w x ∧ x.heap[w.heap.size]? = some (.cells #[.slice (some ⟨g1, 0, none⟩) n1 c1, .slice A2 n2 c2, .slice A3 n3 c3, .int .i64 room, .int .i64 left', .bool off, .int .i64 done'] 35)) (by kernel_rfl) ⟨HE.out.2.2.drew, HE.out.1⟩ (fun hHeld => ?_)
        refine wpAnyH_take (i := 0) (oi := { dst := some 27, op := Op.load 35 (Operand.tmp 3), type := 35, pos := "ref.go:144", after := #[], guard := none }) (v := .agg #[.slice (some ⟨g1, 0, none⟩) n1 c1, .slice A2 n2 c2, .slice A3 n3 c3, .int .i64 room, .int .i64 left', .bool off, .int .i64 done']) rfl (by kernel_rfl) (by kernel_rfl) (by kernel_rfl) (fun _ _ _ h => h) (Or.inl ⟨by rfl, fun w hSw => by obtain ⟨y0, y1, y2, y3, y4, y5, y6, -⟩ := row7 hSw.2; go_simp⟩) (by assumption) ?_
        try simp only [Act.put, List.setIfInBounds_toArray, List.set_cons_zero, List.set_cons_succ]
        refine wpAnyH_take (i := 2) (oi := { dst := some 29, op := Op.move (Operand.tmp 2), type := 22, pos := "ref.go:144", after := #[], guard := none }) (v := .slice Ax lx cx) rfl (by kernel_rfl) (by kernel_rfl) (by kernel_rfl) (fun _ _ _ h => h) (Or.inl ⟨by rfl, fun w hSw => by go_simp⟩) (by assumption) ?_
        try simp only [Act.put, List.setIfInBounds_toArray, List.set_cons_zero, List.set_cons_succ]
        refine wpAnyH_take (i := 3) (oi := { dst := some 30, op := Op.call { callee := Callee.builtin Builtin.len, args := #[Operand.tmp 29], argTypes := #[22] }, type := 3, pos := "ref.go:144", after := #[{ on := 2, ground := Ground.data }], guard := none }) (v := .int .i64 (lx : Int)) rfl (by kernel_rfl) (by kernel_rfl) (by kernel_rfl) (fun _ _ _ h => h) (Or.inl ⟨by rfl, fun w hSw => by go_simp⟩) (by assumption) ?_
        try simp only [Act.put, List.setIfInBounds_toArray, List.set_cons_zero, List.set_cons_succ]
        refine wpAnyH_take (i := 5) (oi := { dst := some 32, op := Op.fieldAddr 35 (Operand.tmp 3) 3, type := 0, pos := "ref.go:144", after := #[], guard := none }) (v := .pointer (some ⟨w.heap.size, 3, none⟩)) rfl (by kernel_rfl) (by kernel_rfl) (by kernel_rfl) (fun _ _ _ h => h) (Or.inl ⟨by rfl, fun w hSw => by go_simp⟩) (by assumption) ?_
        try simp only [Act.put, List.setIfInBounds_toArray, List.set_cons_zero, List.set_cons_succ]
        refine wpAnyH_take (i := 6) (oi := { dst := some 33, op := Op.load 3 (Operand.tmp 32), type := 3, pos := "ref.go:144", after := #[{ on := 5, ground := Ground.data }], guard := none }) (v := .int .i64 room) rfl (by kernel_rfl) (by kernel_rfl) (by kernel_rfl) (fun _ _ _ h => h) (Or.inl ⟨by rfl, fun w hSw => by obtain ⟨y0, y1, y2, y3, y4, y5, y6, -⟩ := row7 hSw.2; go_simp⟩) (by assumption) ?_
        try simp only [Act.put, List.setIfInBounds_toArray, List.set_cons_zero, List.set_cons_succ]
        refine wpAnyH_ready (rs := [1]) (by kernel_rfl) (by simp) ?_
        refine AllReadyH.cons (o := { dst := some 28, op := Op.call { callee := Callee.value (Operand.func 48), args := #[Operand.tmp 27], argTypes := #[35] }, type := 3, pos := "ref.go:144", after := #[{ on := 0, ground := Ground.data }], guard := none }) rfl (fun K hK => ?_) AllReadyH.nil
        go_simp
        refine (C48.out _ hHeld.1 left' done').mono ?_
        rintro e w6 ⟨rfl, B6⟩
        have M6 := (B6.block _ (Array.getElem?_eq_some_iff.1 HE.out.2.1).1).trans HE.out.2.1
        refine hK.out _ _ (⟨hHeld.1.trans (B6.mono hHeld.1.size), (B6.block _ (Array.getElem?_eq_some_iff.1 hHeld.2).1).trans hHeld.2⟩) (fun hHeld => ?_)
        clear hK K
        try simp only [Act.put, List.setIfInBounds_toArray, List.set_cons_zero, List.set_cons_succ]
        have K6 : Hid (Below w.heap.size w w6) := hHeld.1
        have N6 := hHeld.2
        refine wpAnyH_take (i := 4) (oi := { dst := some 31, op := Op.binOp BinOp.add 3 (Operand.tmp 28) (Operand.tmp 30) 3, type := 3, pos := "ref.go:144", after := #[{ on := 1, ground := Ground.data }, { on := 3, ground := Ground.data }], guard := none }) (v := .int .i64 ((U : Int) + (lx : Int))) rfl (by kernel_rfl) (by kernel_rfl) (by kernel_rfl) (fun _ _ _ h => h) (Or.inl ⟨by rfl, fun w hSw => by go_simp⟩) (by assumption) ?_
        try simp only [Act.put, List.setIfInBounds_toArray, List.set_cons_zero, List.set_cons_succ]
        refine wpAnyH_take (i := 7) (oi := { dst := some 34, op := Op.binOp BinOp.gtr 3 (Operand.tmp 31) (Operand.tmp 33) 3, type := 4, pos := "ref.go:144", after := #[{ on := 4, ground := Ground.data }, { on := 6, ground := Ground.data }], guard := none }) (v := .bool false) rfl (by kernel_rfl) (by kernel_rfl) (by kernel_rfl) (fun _ _ _ h => h) (Or.inl ⟨by rfl, fun w hSw => by go_simp⟩) (by assumption) ?_
        try simp only [Act.put, List.setIfInBounds_toArray, List.set_cons_zero, List.set_cons_succ]
        refine wpAnyH_done (by kernel_rfl) ?_ _
        try unfold NoPanic
        obtain ⟨q0, q1, q2, q3, q4, q5, q6, -⟩ := row7 N6
        obtain ⟨d0, d1⟩ := FC.out w6 K6.out
        have hw6 := K6.out.size
        have k1 := (Array.getElem?_eq_some_iff.1 N6).1
        have k2 := (Array.getElem?_eq_some_iff.1 M6).1
        have k3 : ¬ w.heap.size = w6.heap.size := by omega
        have k4 : ¬ w6.heap.size = w.heap.size := by omega
        have k5 : ¬ w.heap.size + 1 = w6.heap.size := by omega
        have k6 : ¬ w6.heap.size = w.heap.size + 1 := by omega
        have HNM := Lib.hid (And.intro N6 M6)
        clear p0 p1 p2 p3 p4 p5 p6 l1 l2 l3 l4 l5 l6 B6 hHeld
        have K9 : Hid (Below w.heap.size w (w6.alloc (.cells #[.slice Ap lp cp, .int .i64 zp] 83))) := K6.out.alloc K6.out.size _
        have s9 : Hid ((w6.alloc (.cells #[.slice Ap lp cp, .int .i64 zp] 83)).heap.size = w6.heap.size + 1) := by show _ = _; simp
        go_wp2_with (first
          | (at_builtin; refine wpList_app T rfl _ _ 22 rfl (w6.alloc (.cells #[.slice Ap lp cp, .int .i64 zp] 83)).heap.size 5 i0 _ 1 1 Try.underlying22 HI.out.1 HI.out.2.1 HI.out.2.2.1 HI.out.2.2.2 rfl (by decide) (.slice none 0 0) 0 [] rfl ⟨rfl, Or.inl ⟨rfl, rfl⟩⟩ (.slice Ap lp cp) lp (L[f].1.map b8) rfl (HB0.out.keep (Shf.Below.keep K9.out T)) HW.out (by unfold maxLen; omega) (by omega) (Nat.le_refl _) ?_; intro v1 w10 own1 grow1; rw [Nat.zero_add, List.nil_append] at own1; obtain ⟨A4, c4, rfl, -⟩ := own_sl (T := fun _ => .none) own1 (fun _ _ => rfl); have HO := Lib.hid (And.intro own1 grow1); have s10 : (w6.alloc (.cells #[.slice Ap lp cp, .int .i64 zp] 83)).heap.size ≤ w10.heap.size := grow1.size; have b10 : Hid (Below (w6.alloc (.cells #[.slice Ap lp cp, .int .i64 zp] 83)).heap.size (w6.alloc (.cells #[.slice Ap lp cp, .int .i64 zp] 83)) w10) := ((Below.refl _ _).grown grow1 (Nat.le_refl _) (fun k h => by cases h)); have R10 := Lib.hid (rdn_below HRP.out (K9.out.trans (b10.out.mono K9.out.size))); clear own1 grow1)
          | (at_builtin; refine wpList_app5 rfl _ _ rfl (w6.alloc (.cells #[.slice Ap lp cp, .int .i64 zp] 83)).heap.size (.slice A4 lp c4) lp (L[f].1.map b8) rfl HO.out.1 Ax lx cx p rfl HLX.out R10.out hAx hlx (by omega) s10 ?_; intro v2 w11 own2 grow2; have b11 := past3 HO.out.1 HO.out.2 grow2; rw [← HNQ.out] at own2; obtain ⟨A7, c7, rfl, -⟩ := own_sl (T := fun _ => .none) own2 (fun _ _ => rfl); have N11 := (b11.block _ (by have := s9.out; omega)).trans ((heap_alloc_old w6 (.cells #[.slice Ap lp cp, .int .i64 zp] 83) k1).trans HNM.out.1); have M11 := (b11.block _ (by have := s9.out; omega)).trans ((heap_alloc_old w6 (.cells #[.slice Ap lp cp, .int .i64 zp] 83) k2).trans HNM.out.2); have F11 := (b11.block w6.heap.size (by have := s9.out; omega)).trans (heap_alloc_new w6 (.cells #[.slice Ap lp cp, .int .i64 zp] 83)); have HO2 := Lib.hid (And.intro own2 (And.intro b11 (And.intro N11 (And.intro M11 F11)))); clear own2 grow2 b11 q0 q1 q2 q3 q4 q5 q6 s10; obtain ⟨q0, q1, q2, q3, q4, q5, q6, -⟩ := row7 N11; obtain ⟨r0, r1, rf⟩ := row2 F11; clear N11 M11 F11)
          | (go_at_call 58; (with_reducible refine (C58.out _ (Shf.Below.keep (((K9.out.trans (HO2.out.2.1.mono K9.out.size)).setCell K6.out.size _)) T) left' done' (.slice A7 nq c7) zp (isSl_mk A7 nq c7)).mono ?_); rintro e w7 ⟨lv', rfl, O7, B7⟩; obtain ⟨A6, c6, rfl, -⟩ := own_sl (T := fun _ => .none) O7 (fun _ _ => rfl); have N7 := (B7.block (w.heap.size + 1) (by have := (Array.getElem?_eq_some_iff.1 HO2.out.2.2.2.1).1; simpa using this)).trans ((Below.heap_setCell _ _ _ _ (by show w.heap.size + 1 ≠ w6.heap.size; omega)).trans HO2.out.2.2.2.1); have HO7 := Lib.hid (And.intro O7 B7); clear O7 B7)
          | (refine wpList_put35 (x0 := .slice none 0 0) (x1 := .slice none 0 0) (x2 := .slice none 0 0) (x3 := .int .i64 0) (x4 := .int .i64 0) (x5 := .bool false) (x6 := .int .i64 0) rfl _ _ rfl (w.heap.size + 1) rfl N7 rfl ?_; intro w3 E3 G3; have HH := Lib.hid (And.intro E3 G3); clear E3 G3)
          | go_in)
        (try simp only [Exit.inBlock, Exit.then])
        refine bodyPost_ret (res35_tmp rfl _ _ (w.heap.size + 1) 35 _ (0, 0) rfl HH.out.1 rfl) rfl ?_
        have s9' := s9.out
        have s11 := HO2.out.2.1.size
        have B12 : Below w.heap.size w (w11.setCell ⟨w6.heap.size, 0, none⟩ (.slice A7 nq c7)) := (K9.out.trans (HO2.out.2.1.mono K9.out.size)).setCell hw6 _
        have e12 : (w11.setCell ⟨w6.heap.size, 0, none⟩ (.slice A7 nq c7)).heap.size = w11.heap.size := by simp
        have B7w : Below w.heap.size w w7 := B12.trans (HO7.out.2.mono B12.size)
        have B8 : Below w.heap.size w w3 := B7w.grown HH.out.2 B7w.size (fun k h => by cases h; omega)
        have s7 := HO7.out.2.size
        have hk : ∀ b, w6.heap.size + 1 ≤ b → b < w11.heap.size → w3.heap[b]? = w11.heap[b]? := fun b h1 h2 =>
          (HH.out.2.block b (by omega) (fun h => by injection h with h; omega)).trans ((HO7.out.2.block b (by omega)).trans (Below.heap_setCell _ _ _ _ (by show b ≠ w6.heap.size; omega)))
        have hB3 : RBy w3 T (.slice A7 nq c7) (L[f].1 ++ p) := by
          have h := own_sl (T := T) (own_move (w' := w3) HO2.out.1 (fun b h1 h2 => hk b (by omega) h2)) (fun b hb => HT.out b (by omega))
          unfold RBy
          rw [List.length_append, ← HLP.out.1, ← HLX.out, ← HNQ.out, List.map_append]
          exact h
        have hz : zp = L[f].2 := HLP.out.2
        rw [← hz]
        exact ⟨_, rfl, ⟨_, _, _, _, _, HR.out.change HT.out HO7.out.1 B12.size B8 (fun b h1 h2 => HH.out.2.block b h2 (fun h => by injection h with h; omega)) hB3 room left' off done'⟩, B8⟩
end Go.Proofs.Ytkalgonkaoiapaa.Shf
