/- Contracts: the document's Rows and Routes. -/
import Derived.Test.YtldaggcopbnehaaKu
namespace Go.Proofs.Ytldaggcopbnehaa.Tab
open Pre Ser Chg
open Go.ChangeShapes Go.WideShapes Go.ChangeAt Go.RowKit
set_option maxRecDepth 8000

theorem look_mem : ∀ {rs : List R}, Rising rs → ∀ {r : R}, r ∈ rs → look r.key rs = some r
  | r0 :: rs, hr, r, h => by
    obtain ⟨h1, h2⟩ := List.pairwise_cons.1 hr
    rcases List.mem_cons.1 h with rfl | h
    · simp [look]
    · have := h1 r h
      have hne : ¬ r0.key = r.key := by omega
      have ih := look_mem h2 h
      unfold look at ih ⊢
      rw [List.find?_cons_of_neg (by simpa using hne)]
      exact ih
theorem rowOf_mem {cs : List C} (h : Gd cs) {r : R} (hr : r ∈ (tabOf cs).rows) : (rowOf cs r.addr r.len).ok = true ∧ (rowOf cs r.addr r.len).cl = r.cl.toArray := by
  have ht := take_ok h cs.length (Nat.le_refl _)
  rw [List.take_length] at ht
  have hk := (ht.1.ok r hr).2.1
  have h1 := look_rowOf h r.addr r.len hk cs.length (Nat.le_refl _)
  rw [List.take_length] at h1
  have h2 : look (key r.addr r.len) (tabOf cs).rows = some r := look_mem ht.1.up hr
  rw [h2] at h1
  have hf := rowOf_fit r.addr r.len cs (fun c hc => by
    obtain ⟨i, hi, rfl⟩ := List.getElem_of_mem hc
    exact (h.ok i hi).2.2.2.2.2.2.1)
  cases hok : (rowOf cs r.addr r.len).ok
  · rw [hok] at h1; simp at h1
  · rw [hok] at h1
    simp only [if_true] at h1
    injection h1 with h1
    refine ⟨rfl, ?_⟩
    have hs := hf.seen hok
    unfold S.cl
    rw [hs, ← h1]
    simp only [if_true]
    rfl
theorem info43 : (Try.prog.info? 60).map (fun i => (i.zero, i.size, i.bytes)) = some (some (.agg #[.int .u32 0, .int .u8 0, .bool false, .int .u32 0, .int .u8 0, .int .i64 0, .int .u16 0, .int .u16 0, .int .u16 0, .int .u16 0]), 10, 48) := by kernel_rfl
theorem rcl_one1 (r : R) : ∀ u ∈ r.cl, u.oneCell' = true := by
  intro u hu
  simp [R.cl] at hu
  rcases hu with rfl | rfl | rfl | rfl | rfl | rfl | rfl | rfl | rfl | rfl <;> rfl
theorem app_row {w : World} {ops : Array Oper} {rest : List Oper} {o : Oper} {a : Act} {Q : Exit → Act → World → Prop} (hgd : o.guard = none) (s x : Operand)
    (ho : o.op = .call { callee := .builtin .append, args := #[s, x], argTypes := #[52, 52] }) (B : Nat) (v : Value) (rs : List R) (r : R) (b : Nat)
    (hs : a.eval s = v) (hx : a.eval x = .slice (some ⟨b, 0, none⟩) 1 1) (hown : ROwn w B v rs) (hc : ∀ j u, r.cl[j]? = some u → w.cell? ((⟨b, 0, none⟩ : Addr).add j) = some u) (hlen : rs.length ≤ 1000) (hB : B ≤ w.heap.size)
    (h : ∀ v' w', ROwn w' B v' (rs ++ [r]) → w.grownBy w' v.ownBlock → wpList Try.prog ops Q rest (a.put o.dst v') w') : wpList Try.prog ops Q (o :: rest) a w := by
  obtain ⟨i0, hi, hz0, hz1, hz2⟩ := info_parts info43
  refine wpList_append_own_at w hgd s x 52 ho B 60 i0 _ 10 48 Try.underlying52 hi hz0 hz1 hz2 rfl (by decide) v rs.length (rs.flatMap R.cl) hs hown ⟨b, 0, none⟩ 1 1 r.cl hx rfl hc (rcl_one1 r) (by unfold maxLen; omega) (by omega) hB ?_
  intro v' w' h1 h2 _ _
  refine h v' w' ?_ h2
  unfold ROwn
  rw [List.length_append, List.flatMap_append]
  simpa using h1
theorem ROwn.mono {w : World} {B B' : Nat} {v : Value} {rs : List R} (h : ROwn w B v rs) (hb : B' ≤ B) : ROwn w B' v rs :=
  ⟨h.1, by
    rcases h.2 with h1 | ⟨g, cap, cur, hv, hB, h2⟩
    · exact .inl h1
    · exact .inr ⟨g, cap, cur, hv, Nat.le_trans hb hB, h2⟩⟩
theorem cells_row (W : World) (r : R) (b : Nat) (hb : b = W.heap.size) (xs : Array Value) (he : xs = r.cl.toArray) : ∀ j u, r.cl[j]? = some u → (W.alloc (.cells xs 60)).cell? ((⟨b, 0, none⟩ : Addr).add j) = some u := by
  intro j u hj
  subst hb he
  rw [Addr.add_lit, Nat.zero_add, cell_of_row _ _ j _ 60 (0, 0) (heap_alloc_new W _), ← hj]
  simp
theorem gd_bounds {cs : List C} (h : Gd cs) : ∀ c ∈ cs, c.metric < 65535 ∧ c.seq < 65536 := fun c hc => by
  obtain ⟨i, hi, rfl⟩ := List.getElem_of_mem hc
  exact ⟨(h.ok i hi).2.2.2.2.2.1, (h.ok i hi).2.2.2.2.2.2.1⟩
theorem rrows_any (w : World) (A : Option Addr) (n cp : Nat) (cs : List C) (hn : n = cs.length) (h60 : n ≤ 60) (hc : ChSl w A cs) (hgd : Gd cs) :
    Calls Try.prog 18 #[.slice A n cp] w fun e w' => ∃ v, e = .returned v ∧ ROwn w' w.heap.size v (tabOf cs).rows ∧ Below w.heap.size w w' := by
  have c28 := prefixes_any w A n cp cs hn h60 hc hgd
  have ht := take_ok hgd cs.length (Nat.le_refl _)
  rw [List.take_length] at ht
  have hrw : ∀ W, Below w.heap.size w W → ∀ k (hk : k < (tabOf cs).rows.length), Calls Try.prog 29 #[.slice A n cp, .agg #[.int .u32 ((tabOf cs).rows[k].addr : Int), .int .u8 ((tabOf cs).rows[k].len : Int)]] W fun e w' => e = .returned (.tuple #[.agg (tabOf cs).rows[k].cl.toArray, .bool true]) ∧ Below W.heap.size W w' := fun W hW k hk => by
    have h1 := row_exact W A n cp cs hn h60 (hc.below hW) (gd_bounds hgd) (tabOf cs).rows[k].addr (tabOf cs).rows[k].len
    have h2 := rowOf_mem hgd (List.getElem_mem hk)
    rw [h2.1, h2.2] at h1
    exact h1
  generalize (tabOf cs).rows = rs at *
  obtain ⟨n3, hn3⟩ : ∃ n3, n3 = rs.length := ⟨_, rfl⟩
  have hl : n3 ≤ 60 := by have := ht.2.1; omega
  have HN := Lib.hid hn3
  have HRW := Lib.hid hrw
  clear hn hc hgd ht hrw hn3
  go_enter Try.func18, Try.ntmps18
  go_wp2_with (go_at_call 28; (with_reducible refine c28.mono ?_); rintro e w1 ⟨v1, rfl, O1, B1⟩; obtain ⟨A3, c3, hv1, hpc⟩ := O1.form; rw [← HN.out] at hv1; subst hv1; have HZ := Lib.hid (And.intro hpc (And.intro O1 B1)); clear O1 B1 hpc)
  have W0 : Hid (ROwn w1 w1.heap.size (.slice none 0 0) [] ∧ Below w1.heap.size w1 w1) := ⟨ROwn.nil _ _, Below.refl _ _⟩
  go_loopw [3, 5] (fun l i wr => ∃ j : Nat, j ≤ n3 ∧ i = .int .i64 j ∧ Hid (ROwn wr w1.heap.size l (rs.take j) ∧ Below w1.heap.size w1 wr)) (fun _ i _ => n3 - (intOf i).toNat)
  case atStart => exact ⟨0, by omega, rfl, W0⟩
  case round =>
    obtain ⟨j, hj, rfl, HR⟩ := hrel
    clear W0
    by_cases hlt : j < n3
    · have hjl : j < rs.length := by rw [← HN.out]; exact hlt
      obtain ⟨ad, hA⟩ : ∃ ad, A3 = some ad := by
        rcases A3 with _ | ad
        · have := (HZ.out.1.none rfl).2; rw [this] at hjl; simp at hjl
        · exact ⟨ad, rfl⟩
      obtain ⟨ab, ao, asp⟩ := ad
      have hsp : asp = none := by
        rcases HZ.out.2.1.2 with ⟨h1, _⟩ | ⟨g, cap, cur, h1, _⟩
        · rw [hA] at h1; cases h1
        · rw [hA] at h1; injection h1 with h1; injection h1 with h1; injection h1
      subst hsp
      subst hA
      obtain ⟨k0, k1⟩ : wr.cell? ⟨ab, ao + j * 2, none⟩ = some (.int .u32 (rs[j].addr : Int)) ∧ wr.cell? ⟨ab, ao + j * 2 + 1, none⟩ = some (.int .u8 (rs[j].len : Int)) := by
        have h1 := ((HZ.out.1.below HR.out.2).src _ rfl).2 (j * 2 + 0) _ (pf_at rs j 0 hjl (by decide))
        have h2 := ((HZ.out.1.below HR.out.2).src _ rfl).2 (j * 2 + 1) _ (pf_at rs j 1 hjl (by decide))
        rw [Addr.add_lit] at h1 h2
        exact ⟨h1, h2⟩
      have hrw := HRW.out wr (HZ.out.2.2.trans (HR.out.2.mono HZ.out.2.2.size)) j hjl
      have hnx : rs.take (j + 1) = rs.take j ++ [rs[j]] := List.take_succ_eq_append_getElem hjl
      have hll : (rs.take j).length ≤ 1000 := by simp only [List.length_take]; omega
      generalize rs[j] = r at *
      have HX := Lib.hid (And.intro hnx hll)
      have HRR : Hid (Calls Try.prog 29 #[.slice A n cp, .agg #[.int .u32 (r.addr : Int), .int .u8 (r.len : Int)]] wr fun e w' => e = .returned (.tuple #[.agg #[.int .u32 (r.addr : Int), .int .u8 (r.len : Int), .bool r.has, .int .u32 (r.addr : Int), .int .u8 (r.len : Int), .int .i64 (r.via : Int), .int .u16 (r.metric : Int), .int .u16 (r.seq : Int), .int .u16 (r.ms : Int), .int .u16 (r.mm : Int)], .bool true]) ∧ Below wr.heap.size wr w') := hrw
      clear hnx hll hrw
      obtain ⟨A4, c4, hv4, -, -⟩ := HR.out.1.form
      obtain ⟨n4, hn4⟩ : ∃ n4, n4 = (rs.take j).length := ⟨_, rfl⟩
      rw [← hn4] at hv4
      clear hn4
      subst hv4
      go_wp2_with (first
        | (go_at_call 29; (with_reducible refine HRR.out.mono ?_); rintro e w2 ⟨rfl, B2⟩; have HB2 := Lib.hid B2; clear B2 k0 k1)
        | (at_builtin; refine app_row rfl (.tmp 26) (.tmp 28) rfl w1.heap.size _ (rs.take j) r (w2.heap.size + 1) rfl rfl (HR.out.1.kept ((HB2.out.alloc HB2.out.size _).alloc (by have := HB2.out.size; simp; omega) _)) (cells_row _ _ _ (by simp) _ rfl) HX.out.2 (by have := HR.out.2.size; have := HB2.out.size; simp; omega) ?_; intro v5 w5 h5 h6; have HZ5 := Lib.hid (And.intro h5 h6); clear h5 h6))
      go_roundw
      case rel =>
        refine ⟨j + 1, by omega, by go_num, ⟨by rw [HX.out.1]; exact HZ5.out.1, ?_⟩⟩
        have hb := HR.out.2.trans (HB2.out.mono HR.out.2.size)
        exact ((hb.alloc hb.size _).alloc (by have := hb.size; simp; omega) _).grown HZ5.out.2 (by have := hb.size; simp; omega) (fun k hk => ((HR.out.1.lt k hk).1))
      case measure => simp [intOf]; omega
    · obtain rfl : j = n3 := by omega
      go_wp2
      go_ret
      refine ⟨_, rfl, ?_, HZ.out.2.2.trans (HR.out.2.mono HZ.out.2.2.size)⟩
      have hf := HR.out.1
      rw [List.take_of_length_le (by rw [HN.out]; exact Nat.le_refl _)] at hf
      exact hf.mono HZ.out.2.2.size
end Go.Proofs.Ytldaggcopbnehaa.Tab
