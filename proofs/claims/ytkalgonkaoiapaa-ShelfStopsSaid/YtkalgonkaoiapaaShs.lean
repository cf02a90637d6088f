/- What a shelf's acts do in memory: act, actOn, Sync, Append, Cut, Read. -/
import Derived.Test.YtkalgonkaoiapaaShp
namespace Go.Proofs.Ytkalgonkaoiapaa.Shf
open Go.ChangeShapes Go.WideShapes Go.ChangeAt Go.RowKit

/-- Behind a step that writes one file. -/
theorem RepV.file_write {w w' : World} {T : Nat → Tag} {q : Nat} {m : M} {nv sv mv : Value} {nn ns b : Nat} {v v' : Value} {x : S × Nat} (R : RepV w T q m nv sv mv nn ns) (hb : T b = .file) (hv : ∀ g, v.ownBlock = some g → T g = .row b) (hc : Chg w w' (fun k => k = b ∨ v.ownBlock = some k))
    (hF : FlAt w' b v' x.2) (hO : Own w' v' x.1) (ho : ∀ g, v'.ownBlock = some g → v.ownBlock = some g ∨ w.heap.size ≤ g) (hx : x.2 ≤ x.1.length) :
    RepV w' (fun k => if k < w.heap.size then T k else if v'.ownBlock = some k then .row b else .none) q (m.file b x) nv sv mv nn ns := by
  have keep : ∀ {k t}, T k = t → t ≠ .none → (if k < w.heap.size then T k else if v'.ownBlock = some k then Tag.row b else .none) = t := fun {k t} h ht => by
    rw [if_pos (R.old k (by rw [h]; exact ht)), h]
  have ne : ∀ {k}, T k ≠ .file → T k ≠ .row b → ¬ (k = b ∨ v.ownBlock = some k) := fun k1 k2 h => by
    rcases h with h | h
    · exact k1 (by rw [h]; exact hb)
    · exact k2 (hv _ h)
  refine ⟨R.sh.at hc (ne (by rw [R.tq]; intro h; cases h) (by rw [R.tq]; intro h; cases h)), keep R.tq (by intro h; cases h), R.nm.at hc (fun k hk => ne (by rw [R.tn k hk]; intro h; cases h) (by rw [R.tn k hk]; intro h; cases h)), fun k hk => keep (R.tn k hk) (by intro h; cases h),
    R.sf.at hc (fun k hk => ne (by rw [R.ts k hk]; intro h; cases h) (by rw [R.ts k hk]; intro h; cases h)), fun k hk => keep (R.ts k hk) (by intro h; cases h), R.mo.at hc (fun k hk => ne (by rw [R.tm k hk]; intro h; cases h) (by rw [R.tm k hk]; intro h; cases h)), fun k hk => keep (R.tm k hk) (by intro h; cases h), ?_, ?_,
    fun p hp => keep (R.lnow p hp) (by intro h; cases h), fun p hp => keep (R.lsafe p hp) (by intro h; cases h), fun y hy => ⟨fun c hc => keep ((R.lmov y hy).1 c hc) (by intro h; cases h), (R.lmov y hy).2⟩, R.bnn, R.bns⟩
  · intro c hcT
    have hcT' : T c = .file := by
      by_cases e : c < w.heap.size
      · rwa [if_pos e] at hcT
      · rw [if_neg e] at hcT
        split at hcT <;> cases hcT
    by_cases e : c = b
    · subst e
      refine ⟨v', ?_, ?_, ?_, ?_⟩
      · simp only [M.file, if_true]; exact hF
      · simp only [M.file, if_true]; exact hO
      · intro g hg
        rcases ho g hg with h | h
        · exact keep (hv g h) (by intro h; cases h)
        · rw [if_neg (by omega), if_pos hg]
      · simp only [M.file, if_true]; exact hx
    · obtain ⟨y, h1, h2, h3, h4⟩ := R.fl c hcT'
      simp only [M.file, if_neg e]
      have hr : ∀ g, y.ownBlock = some g → ¬ (g = b ∨ v.ownBlock = some g) := fun g hg => ne (by rw [h3 g hg]; intro h; cases h) (by rw [h3 g hg]; intro h; injection h with h; exact e h)
      exact ⟨y, h1.at hc (fun h => h.elim e (fun h => by have := hv c h; rw [hcT'] at this; cases this)), h2.at hc hr, fun g hg => keep (h3 g hg) (by intro h; cases h), h4⟩
  · intro k hk
    by_cases e : k < w.heap.size
    · exact Nat.lt_of_lt_of_le e hc.size
    · rw [if_neg e] at hk
      by_cases e2 : v'.ownBlock = some k
      · exact hO.lt k e2
      · rw [if_neg e2] at hk; exact absurd rfl hk
theorem chg_of_grown {w w' : World} {q : Nat} (h : w.grownBy w' (some q)) : Chg w w' (fun k => k = q) := (chg_grown h).wide (fun i _ h => by injection h with h; exact h.symm)
theorem tag_ne {T : Nat → Tag} {k : Nat} {t : Tag} (h : T k = t) (ht : t ≠ .none) : T k ≠ .none := by rw [h]; exact ht
theorem act_rep (w : World) (T : Nat → Tag) (q : Nat) (m : M) (R : Rep w T q m) (hd : m.done < 1000000000) :
    Calls Try.prog 32 #[.pointer (some ⟨q, 0, none⟩)] w fun e w' => e = .returned (.int .i64 (m.actE : Int)) ∧ Rep w' T q m.act ∧ Ext w T w' T := by
  obtain ⟨⟨nv, sv, mv, nn, ns, R⟩, F⟩ := R
  refine (act_any w q m nv sv mv R.sh (by omega) F.ahead).mono ?_
  rintro e w' ⟨rfl, h1, h2⟩
  obtain ⟨e1, e2, e3, e4, _⟩ := act_now m
  exact ⟨rfl, ⟨⟨nv, sv, mv, nn, ns, R.sh_step (chg_of_grown h2) h1 ⟨e1, e2, e3, e4⟩ (act_done m).1⟩, F.act⟩, (chg_of_grown h2).ext (fun k _ e => by rw [e]; exact tag_ne R.tq (by intro h; cases h)) (fun _ _ => rfl)⟩
set_option maxRecDepth 4000 in
theorem actOn_rep (w : World) (T : Nat → Tag) (q : Nat) (m : M) (name : S) (R : Rep w T q m) (hd : m.done < 1000000000) (hl : name.length ≤ 1000) :
    Calls Try.prog 34 #[.pointer (some ⟨q, 0, none⟩), .string (str name)] w fun e w' => e = .returned (.tuple #[ptrV (m.onF name), .int .i64 (m.onE name : Int)]) ∧ Rep w' T q m.act ∧ Ext w T w' T := by
  have c32 := act_rep w T q m R hd
  obtain ⟨nm, hnm⟩ : ∃ nm, nm = str name := ⟨_, rfl⟩
  have HL : ∀ w' nv sv mv nn ns, RepV w' T q m.act nv sv mv nn ns → (Instr.lookup 58 nv (.string nm) false).run Try.prog w' = .ok (ptrV (get m.now name)) w' ∧ w'.cell? ⟨q, 1, none⟩ = some nv := fun w' nv sv mv nn ns R => by
    have h := R.nm.look (s := name) (by omega)
    rw [(act_now m).1, ← hnm] at h
    exact ⟨h, R.sh.cell 1⟩
  rw [← hnm]
  rcases onE_cases m name with ⟨h1, h2, h3⟩ | ⟨h1, h2, h3, h4⟩ | ⟨b, h1, h2, h3, h4⟩
  · rw [h1, h2]
    rw [h3] at c32
    simp only [ptrV]
    clear HL hnm h1 h2 h3 R
    go_enter Try.func34, Try.ntmps34
    go_wp2_with (first | (go_at_call 32; refine c32.mono ?_; rintro e w' ⟨rfl, R', X⟩))
    go_ret2
    exact ⟨rfl, R', X⟩
  · rw [h1, h2]
    rw [h3] at c32
    rw [h4] at HL
    simp only [ptrV] at HL ⊢
    clear hnm h1 h2 h3 h4 R
    have HL := Lib.hid HL
    go_enter Try.func34, Try.ntmps34
    go_wp2_with (first | (go_at_call 32; refine c32.mono ?_; rintro e w' ⟨rfl, R', X⟩; obtain ⟨⟨nv, sv, mv, nn, ns, RV⟩, F'⟩ := R'; obtain ⟨y1, y2⟩ := HL.out _ _ _ _ _ _ RV))
    go_ret2
    exact ⟨rfl, ⟨⟨_, _, _, _, _, RV⟩, F'⟩, X⟩
  · rw [h1, h2]
    rw [h3] at c32
    rw [h4] at HL
    simp only [ptrV] at HL ⊢
    clear hnm h1 h2 h3 h4 R
    have HL := Lib.hid HL
    go_enter Try.func34, Try.ntmps34
    go_wp2_with (first | (go_at_call 32; refine c32.mono ?_; rintro e w' ⟨rfl, R', X⟩; obtain ⟨⟨nv, sv, mv, nn, ns, RV⟩, F'⟩ := R'; obtain ⟨y1, y2⟩ := HL.out _ _ _ _ _ _ RV))
    go_ret2
    exact ⟨rfl, ⟨⟨_, _, _, _, _, RV⟩, F'⟩, X⟩
theorem Rep.fileOf {w : World} {T : Nat → Tag} {q : Nat} {m : M} (R : Rep w T q m) {name : S} {b : Nat} (h : get m.now name = some b) : T b = .file := by
  obtain ⟨⟨nv, sv, mv, nn, ns, R⟩, _⟩ := R
  exact R.lnow _ (mem_get h)
set_option maxRecDepth 4000 in
theorem sync_rep (w : World) (T : Nat → Tag) (q : Nat) (m : M) (name : S) (R : Rep w T q m) (hd : m.done < 1000000000) (hl : name.length ≤ 1000) :
    Calls Try.prog 13 #[.pointer (some ⟨q, 0, none⟩), .string (str name)] w fun e w' => e = .returned (.int .i64 (m.onE name : Int)) ∧ ∃ T', Rep w' T' q (m.sync name) ∧ Ext w T w' T' := by
  have c34 := actOn_rep w T q m name R hd hl
  obtain ⟨nm, hnm⟩ : ∃ nm, nm = str name := ⟨_, rfl⟩
  rw [← hnm] at c34 ⊢
  rcases onE_cases m name with ⟨h1, h2, h3⟩ | ⟨h1, h2, h3, h4⟩ | ⟨b, h1, h2, h3, h4⟩
  · rw [h1]
    rw [h1, h2] at c34
    rw [show m.sync name = m.act by simp [M.sync, h2]]
    simp only [ptrV] at c34
    clear hnm h1 h2 h3 R
    go_enter Try.func13, Try.ntmps13
    go_wp2_with (first | (go_at_call 34; refine c34.mono ?_; rintro e w' ⟨rfl, R', X⟩))
    go_ret
    exact ⟨rfl, _, R', X⟩
  · rw [h1]
    rw [h1, h2] at c34
    rw [show m.sync name = m.act by simp [M.sync, h2]]
    simp only [ptrV] at c34
    clear hnm h1 h2 h3 h4 R
    go_enter Try.func13, Try.ntmps13
    go_wp2_with (first | (go_at_call 34; refine c34.mono ?_; rintro e w' ⟨rfl, R', X⟩))
    go_ret
    exact ⟨rfl, _, R', X⟩
  · have hT := R.fileOf h4
    have hFn := R.2.sync name
    rw [h1]
    rw [h1, h2] at c34
    rw [show m.sync name = m.act.file b ((m.fl b).1, (m.fl b).1.length) by simp [M.sync, h2]] at hFn ⊢
    simp only [ptrV] at c34
    have hfl := (act_now m).2.2.2.1
    have HT := Lib.hid hT
    have HFn := Lib.hid hFn
    have Hfl := Lib.hid hfl
    clear hnm h1 h2 h3 h4 R hT hFn hfl
    go_enter Try.func13, Try.ntmps13
    go_wp2_with (first | (go_at_call 34; refine c34.mono ?_; rintro e w' ⟨rfl, R', X⟩; obtain ⟨⟨nv, sv, mv, nn, ns, RV⟩, F'⟩ := R'; obtain ⟨v, k1, k2, k3, k4⟩ := RV.fl b HT.out; obtain ⟨A, c, hv, _, _, _, _⟩ := k2.form; rw [Hfl.out] at hv; have y0 := k1.cell0; rw [hv] at y0; have y1 := k1.cell1; have z1 := k1.fz 1))
    go_ret
    have FW := k1.set1 (m.fl b).1.length
    have hc := chg_set w' b 1 (.int .i64 ((m.fl b).1.length : Int))
    rw [Hfl.out] at k2
    refine ⟨rfl, _, ⟨⟨_, _, _, _, _, RV.file_write (v := v) (v' := v) HT.out k3 (hc.wide (fun _ _ h => Or.inl h)) FW (k2.at hc (fun g hg e => ?_)) (fun g hg => Or.inl hg) (Nat.le_refl _)⟩, HFn.out⟩, X.trans (hc.ext (fun k _ e => by rw [e]; exact tag_ne HT.out (by intro h; cases h)) (fun k hk => if_pos hk))⟩
    have := k3 g hg
    rw [e, HT.out] at this
    cases this
end Go.Proofs.Ytkalgonkaoiapaa.Shf
