/- A table's routes; one row of it. -/
import Derived.Test.YtcgncecjbkpmkaaKg
namespace Go.Proofs.Ytcgncecjbkpmkaa.Tab
open Pre Ser Chg
open Go.ChangeShapes Go.WideShapes Go.ChangeAt Go.RowKit
set_option maxRecDepth 8000

/-- A row's route. -/
def R.rt (r : R) : List Value := [.int .u32 (r.addr : Int), .int .u8 (r.len : Int), .int .i64 (r.via : Int), .int .u16 (r.metric : Int), .int .u16 (r.seq : Int)]
theorem rt_len (rs : List R) : (rs.flatMap R.rt).length = rs.length * 5 := by
  induction rs with
  | nil => rfl
  | cons r rs ih => simp only [List.flatMap_cons, List.length_append, ih, List.length_cons]; show 5 + _ = _; omega
theorem rt_one (r : R) : ∀ u ∈ r.rt, u.oneCell' = true := by
  intro u hu
  simp [R.rt] at hu
  rcases hu with rfl | rfl | rfl | rfl | rfl <;> rfl
def RtOwn (w : World) (B : Nat) (v : Value) (rs : List R) : Prop := w.ownsRow B 36 5 v rs.length (rs.flatMap R.rt)
theorem RtOwn.nil (w : World) (B : Nat) : RtOwn w B (.slice none 0 0) [] := World.ownsRow_nil w B 36 5
theorem RtOwn.kept {w w' : World} {B : Nat} {v : Value} {rs : List R} (h : RtOwn w B v rs) (hb : Below w.heap.size w w') : RtOwn w' B v rs :=
  World.ownsRow.kept (row := none) h ⟨hb.os, hb.tape, hb.output, hb.size, fun k hk _ => hb.block k hk⟩ (by cases v.ownBlock <;> simp)
theorem RtOwn.form {w : World} {B : Nat} {v : Value} {rs : List R} (h : RtOwn w B v rs) : ∃ A c, v = .slice A rs.length c := by
  rcases h.2 with ⟨hv, hn⟩ | ⟨g, cap, cur, hv, _⟩
  · have e : rs.length = 0 := hn
    exact ⟨none, 0, by rw [hv, e]⟩
  · exact ⟨_, cap, hv⟩
theorem RtOwn.mono {w : World} {B B' : Nat} {v : Value} {rs : List R} (h : RtOwn w B v rs) (hb : B' ≤ B) : RtOwn w B' v rs :=
  ⟨h.1, by
    rcases h.2 with h1 | ⟨g, cap, cur, hv, hB, h2⟩
    · exact .inl h1
    · exact .inr ⟨g, cap, cur, hv, Nat.le_trans hb hB, h2⟩⟩
theorem cells_rt (W : World) (r : R) (b : Nat) (hb : b = W.heap.size) (xs : Array Value) (he : xs = r.rt.toArray) : ∀ j u, r.rt[j]? = some u → (W.alloc (.cells xs 36)).cell? ((⟨b, 0, none⟩ : Addr).add j) = some u := by
  intro j u hj
  subst hb he
  rw [Addr.add_lit, Nat.zero_add, cell_of_row _ _ j _ 36 (0, 0) (heap_alloc_new W _), ← hj]
  simp
theorem info36 : (Try.prog.info? 36).map (fun i => (i.zero, i.size, i.bytes)) = some (some (.agg #[.int .u32 0, .int .u8 0, .int .i64 0, .int .u16 0, .int .u16 0]), 5, 24) := by kernel_rfl
theorem app_rt {w : World} {ops : Array Oper} {rest : List Oper} {o : Oper} {a : Act} {Q : Exit → Act → World → Prop} (hgd : o.guard = none) (s x : Operand)
    (ho : o.op = .call { callee := .builtin .append, args := #[s, x], argTypes := #[52, 52] }) (B : Nat) (v : Value) (rs : List R) (r : R) (b : Nat)
    (hs : a.eval s = v) (hx : a.eval x = .slice (some ⟨b, 0, none⟩) 1 1) (hown : RtOwn w B v rs) (hc : ∀ j u, r.rt[j]? = some u → w.cell? ((⟨b, 0, none⟩ : Addr).add j) = some u) (hlen : rs.length ≤ 1000) (hB : B ≤ w.heap.size)
    (h : ∀ v' w', RtOwn w' B v' (rs ++ [r]) → w.grownBy w' v.ownBlock → wpList Try.prog ops Q rest (a.put o.dst v') w') : wpList Try.prog ops Q (o :: rest) a w := by
  obtain ⟨i0, hi, hz0, hz1, hz2⟩ := info_parts info36
  refine wpList_append_own_at w hgd s x 52 ho B 36 i0 _ 5 24 Try.underlying52 hi hz0 hz1 hz2 rfl (by decide) v rs.length (rs.flatMap R.rt) hs hown ⟨b, 0, none⟩ 1 1 r.rt hx rfl hc (rt_one r) (by unfold maxLen; omega) (by omega) hB ?_
  intro v' w' h1 h2 _ _
  refine h v' w' ?_ h2
  unfold RtOwn
  rw [List.length_append, List.flatMap_append]
  simpa using h1
theorem routes_any (w : World) (B q : Nat) (t : T) (v : Value) (h : TabAt w B q t v) (hlen : t.rows.length ≤ 1000) :
    Calls Try.prog 17 #[.pointer (some ⟨q, 0, none⟩)] w fun e w' => ∃ v', e = .returned v' ∧ RtOwn w' w.heap.size v' (t.rows.filter (·.has)) ∧ Below w.heap.size w w' := by
  have c14 := rows_any w B q t v h hlen
  obtain ⟨n, hn⟩ : ∃ n, n = t.rows.length := ⟨_, rfl⟩
  have HN := Lib.hid hn
  rw [← hn] at hlen
  clear h hn
  go_enter Try.func17, Try.ntmps17
  go_wp2_with (go_at_call 14; (with_reducible refine c14.mono ?_); rintro e w1 ⟨v1, rfl, O1, B1⟩; obtain ⟨A, cp, hv1, hsl, -⟩ := O1.form; rw [← HN.out] at hv1; subst hv1; have HZ := Lib.hid (And.intro hsl B1); clear O1 B1 hsl)
  have W0 : Hid (RtOwn w1 w1.heap.size (.slice none 0 0) [] ∧ Below w1.heap.size w1 w1) := ⟨RtOwn.nil _ _, Below.refl _ _⟩
  go_loopw [3, 9] (fun l i wr => ∃ j : Nat, j ≤ n ∧ i = .int .i64 j ∧ Hid (RtOwn wr w1.heap.size l ((t.rows.take j).filter (·.has)) ∧ Below w1.heap.size w1 wr)) (fun _ i _ => n - (intOf i).toNat)
  case atStart => exact ⟨0, by omega, rfl, W0⟩
  case round =>
    obtain ⟨j, hj, rfl, HR⟩ := hrel
    clear W0
    by_cases hlt : j < n
    · have hjl : j < t.rows.length := by rw [← HN.out]; exact hlt
      obtain ⟨bb, oo, ea, hb, hca⟩ := (HZ.out.1.below HR.out.2) j hjl
      subst ea
      obtain ⟨k0, k1, k2, k3, k4, k5, k6, k7, k8, k9⟩ := hca
      have hnx : (t.rows.take (j + 1)).filter (·.has) = (t.rows.take j).filter (·.has) ++ (if t.rows[j].has then [t.rows[j]] else []) := by
        rw [List.take_succ_eq_append_getElem hjl, List.filter_append]
        congr 1
        cases h : t.rows[j].has <;> simp [h]
      have hll : ((t.rows.take j).filter (·.has)).length ≤ 1000 := by
        have := List.length_filter_le (fun r : R => r.has) (t.rows.take j)
        simp only [List.length_take] at this
        omega
      generalize t.rows[j] = r at *
      have HX := Lib.hid (And.intro hnx hll)
      clear hnx hll
      obtain ⟨A3, c3, hv3⟩ := HR.out.1.form
      obtain ⟨n3, hn3⟩ : ∃ n3, n3 = ((t.rows.take j).filter (·.has)).length := ⟨_, rfl⟩
      rw [← hn3] at hv3
      clear hn3
      subst hv3
      obtain ⟨ra, rk, has, v1', m1, s1, q1, q2⟩ := r
      simp only at k0 k1 k2 k3 k4 k5 k6 k7 k8 k9
      cases has
      · go_wp2
        go_roundw
        case rel => exact ⟨j + 1, by omega, by go_num, ⟨by rw [HX.out.1]; simpa using HR.out.1.kept ((Below.refl _ _).alloc (Nat.le_refl _) _), HR.out.2.alloc HR.out.2.size _⟩⟩
        case measure => simp [intOf]; omega
      · go_wp2_with (at_builtin; (refine app_rt rfl _ _ rfl w1.heap.size _ ((t.rows.take j).filter (·.has)) ⟨ra, rk, true, v1', m1, s1, q1, q2⟩ (wr.heap.size + 1) rfl rfl (HR.out.1.kept (((Below.refl _ _).alloc (Nat.le_refl _) _).alloc (by simp) _)) (cells_rt _ _ _ (by simp) _ rfl) HX.out.2 (by have := HR.out.2.size; simp; omega) ?_); intro v4 w4 h5 h6; have HZ4 := Lib.hid (And.intro h5 h6); clear h5 h6)
        go_roundw
        case rel =>
          refine ⟨j + 1, by omega, by go_num, ⟨by rw [HX.out.1]; exact HZ4.out.1, ?_⟩⟩
          exact ((HR.out.2.alloc HR.out.2.size _).alloc (by have := HR.out.2.size; simp; omega) _).grown HZ4.out.2 (by have := HR.out.2.size; simp; omega) (fun k hk => ((HR.out.1.lt k hk).1))
        case measure => simp [intOf]; omega
    · obtain rfl : j = n := by omega
      go_wp2
      go_ret
      refine ⟨_, rfl, ?_, HZ.out.2.trans (HR.out.2.mono HZ.out.2.size)⟩
      have hf := HR.out.1
      rw [List.take_of_length_le (by rw [HN.out]; exact Nat.le_refl _)] at hf
      exact hf.mono HZ.out.2.size
end Go.Proofs.Ytcgncecjbkpmkaa.Tab
