/- Contract: the document's Prefixes: those of some changes, each once, rising. -/
import Derived.Test.YtldaggcopbnehaaKp
import Derived.Laws.AppendOwnNone
namespace Go.Proofs.Ytldaggcopbnehaa.Tab
open Pre Ser Chg
open Go.ChangeShapes Go.WideShapes Go.ChangeAt Go.RowKit
set_option maxRecDepth 8000

def R.pf (r : R) : List Value := [.int .u32 (r.addr : Int), .int .u8 (r.len : Int)]
theorem pf_len (rs : List R) : (rs.flatMap R.pf).length = rs.length * 2 := by
  induction rs with
  | nil => rfl
  | cons r rs ih => simp only [List.flatMap_cons, List.length_append, ih, List.length_cons]; show 2 + _ = _; omega
theorem pf_one (rs : List R) : ∀ u ∈ rs.flatMap R.pf, u.oneCell' = true := by
  intro u hu
  obtain ⟨r, _, hr⟩ := List.mem_flatMap.1 hu
  simp [R.pf] at hr
  rcases hr with rfl | rfl <;> rfl
theorem pf_take (rs : List R) (k : Nat) : (rs.flatMap R.pf).take (k * 2) = (rs.take k).flatMap R.pf := by
  induction rs generalizing k with
  | nil => simp
  | cons r rs ih =>
    cases k with
    | zero => simp
    | succ k =>
      simp only [List.flatMap_cons, List.take_succ_cons]
      rw [List.take_append, show (R.pf r).length = 2 from rfl, show (k + 1) * 2 - 2 = k * 2 by omega, ih, List.take_of_length_le (by show 2 ≤ _; omega)]
theorem pf_drop (rs : List R) (k : Nat) : (rs.flatMap R.pf).drop (k * 2) = (rs.drop k).flatMap R.pf := by
  induction rs generalizing k with
  | nil => simp
  | cons r rs ih =>
    cases k with
    | zero => simp
    | succ k =>
      simp only [List.flatMap_cons, List.drop_succ_cons]
      rw [List.drop_append, show (R.pf r).length = 2 from rfl, show (k + 1) * 2 - 2 = k * 2 by omega, ih, List.drop_of_length_le (by show 2 ≤ _; omega)]
      rfl
theorem pf_at : ∀ (rs : List R) (k i : Nat) (hk : k < rs.length), i < 2 → (rs.flatMap R.pf)[k * 2 + i]? = (rs[k].pf)[i]?
  | r :: rs, 0, i, _, hi => by
    simp only [List.flatMap_cons, Nat.zero_mul, Nat.zero_add, List.getElem_cons_zero]
    rw [List.getElem?_append_left (by exact hi)]
  | r :: rs, k + 1, i, hk, hi => by
    simp only [List.flatMap_cons, List.getElem_cons_succ]
    rw [List.getElem?_append_right (by show 2 ≤ _; omega), show (R.pf r).length = 2 from rfl, show (k + 1) * 2 + i - 2 = k * 2 + i by omega]
    exact pf_at rs k i (by simpa using hk) hi
/-- Prefixes in a slice of the call's own. -/
def PfOwn (w : World) (B : Nat) (v : Value) (rs : List R) : Prop := w.ownsRow B 34 2 v rs.length (rs.flatMap R.pf)
theorem PfOwn.nil (w : World) (B : Nat) : PfOwn w B (.slice none 0 0) [] := World.ownsRow_nil w B 34 2
theorem PfOwn.kept {w w' : World} {B : Nat} {v : Value} {rs : List R} (h : PfOwn w B v rs) (hb : Below w.heap.size w w') : PfOwn w' B v rs :=
  World.ownsRow.kept (row := none) h ⟨hb.os, hb.tape, hb.output, hb.size, fun k hk _ => hb.block k hk⟩ (by cases v.ownBlock <;> simp)
theorem PfOwn.mono {w : World} {B B' : Nat} {v : Value} {rs : List R} (h : PfOwn w B v rs) (hb : B' ≤ B) : PfOwn w B' v rs :=
  ⟨h.1, by
    rcases h.2 with h1 | ⟨g, cap, cur, hv, hB, h2⟩
    · exact .inl h1
    · exact .inr ⟨g, cap, cur, hv, Nat.le_trans hb hB, h2⟩⟩
/-- Where prefixes are read. -/
structure PfC (w : World) (A : Option Addr) (cap : Nat) (rs : List R) : Prop where
  src : ∀ ad, A = some ad → ad.block < w.heap.size ∧ ∀ j u, (rs.flatMap R.pf)[j]? = some u → w.cell? (ad.add j) = some u
  none : A = none → cap = 0 ∧ rs = []
  cap : rs.length ≤ cap
theorem PfOwn.form {w : World} {B : Nat} {v : Value} {rs : List R} (h : PfOwn w B v rs) : ∃ A c, v = .slice A rs.length c ∧ PfC w A c rs := by
  rcases h.2 with ⟨hv, hn⟩ | ⟨g, cap, cur, hv, hB, hg, h1, h2, h3, h4⟩
  · have e : rs.length = 0 := hn
    exact ⟨none, 0, by rw [hv, e], ⟨fun ad e => (by cases e), fun _ => ⟨rfl, List.eq_nil_of_length_eq_zero e⟩, by omega⟩⟩
  · refine ⟨_, cap, hv, ⟨fun ad e => ?_, fun e => (by cases e), h1⟩⟩
    injection e with e
    subst e
    refine ⟨(Array.getElem?_eq_some_iff.1 hg).1, fun j u hj => ?_⟩
    rw [Addr.add_lit, Nat.zero_add, cell_of_row _ _ _ _ 34 (0, 0) hg]
    rw [← h4, List.getElem?_take] at hj
    split at hj
    · simpa using hj
    · cases hj
theorem PfC.below {w w' : World} {A : Option Addr} {c : Nat} {rs : List R} (h : PfC w A c rs) (b : Below w.heap.size w w') : PfC w' A c rs :=
  ⟨fun ad e => ⟨Nat.lt_of_lt_of_le (h.src ad e).1 b.size, fun j u hj => (World.cell?_of_block (by
    have e1 : (ad.add j).block = ad.block := by unfold Addr.add; split <;> rfl
    rw [e1]; exact b.block _ (h.src ad e).1)).trans ((h.src ad e).2 j u hj)⟩, h.none, h.cap⟩
theorem info33 : (Try.prog.info? 34).map (fun i => (i.zero, i.size, i.bytes)) = some (some (.agg #[.int .u32 0, .int .u8 0]), 2, 8) := by kernel_rfl
theorem app_pf {w : World} {ops : Array Oper} {rest : List Oper} {o : Oper} {a : Act} {Q : Exit → Act → World → Prop} (hgd : o.guard = none) (s x : Operand)
    (ho : o.op = .call { callee := .builtin .append, args := #[s, x], argTypes := #[71, 71] }) (B : Nat) (v : Value) (rs rs2 : List R) (A : Option Addr) (m c : Nat)
    (hs : a.eval s = v) (hx : a.eval x = .slice A m c) (hown : PfOwn w B v rs) (hm : m = rs2.length) (hA : A = none → m = 0 ∧ c = 0) (hc : ∀ ad, A = some ad → ∀ j u, (rs2.flatMap R.pf)[j]? = some u → w.cell? (ad.add j) = some u) (hlen : rs.length + rs2.length ≤ 1000) (hB : B ≤ w.heap.size)
    (h : ∀ v' w', PfOwn w' B v' (rs ++ rs2) → w.grownBy w' v.ownBlock → wpList Try.prog ops Q rest (a.put o.dst v') w') : wpList Try.prog ops Q (o :: rest) a w := by
  obtain ⟨i0, hi, hz0, hz1, hz2⟩ := info_parts info33
  subst hm
  rcases A with _ | ad
  · obtain ⟨h0, rfl⟩ := hA rfl
    have h1 : rs2 = [] := List.eq_nil_of_length_eq_zero h0
    subst h1
    refine wpList_append_own_none hgd s x 71 ho B 34 i0 2 Try.underlying71 hi v rs.length (rs.flatMap R.pf) hs hown hx (h v w (by simpa using hown) (World.grownBy.refl w _))
  · refine wpList_append_own_at w hgd s x 71 ho B 34 i0 _ 2 8 Try.underlying71 hi hz0 hz1 hz2 rfl (by decide) v rs.length (rs.flatMap R.pf) hs hown ad rs2.length c (rs2.flatMap R.pf) hx (pf_len rs2) (hc ad rfl) (pf_one rs2) (by unfold maxLen; omega) (by omega) hB ?_
    intro v' w' h1 h2 _ _
    refine h v' w' ?_ h2
    unfold PfOwn
    rw [List.length_append, List.flatMap_append]
    exact h1
theorem pf_upd_there {c : C} {rs : List R} (h : thereB c.key rs = true) : (upd c rs).flatMap R.pf = rs.flatMap R.pf ∧ (upd c rs).length = rs.length := by
  obtain ⟨hp, he⟩ := there_yes h
  rw [upd_there hp he]
  refine ⟨?_, List.length_set⟩
  have e : (rs[pos c.key rs].next c).pf = rs[pos c.key rs].pf := by unfold R.pf; rw [(next_addr _ c).1, (next_addr _ c).2]
  rw [List.set_eq_take_append_cons_drop, if_pos hp]
  conv => rhs; rw [← List.take_append_drop (pos c.key rs) rs, List.drop_eq_getElem_cons hp]
  simp only [List.flatMap_append, List.flatMap_cons, e]
set_option maxHeartbeats 4000000 in
theorem prefixes_any (w : World) (A : Option Addr) (n cp : Nat) (cs : List C) (hn : n = cs.length) (h60 : n ≤ 60) (hc : ChSl w A cs) (hgd : Gd cs) :
    Calls Try.prog 28 #[.slice A n cp] w fun e w' => ∃ v, e = .returned v ∧ PfOwn w' w.heap.size v (tabOf cs).rows ∧ Below w.heap.size w w' := by
  have HN := Lib.hid hn
  have HC := Lib.hid hc
  have HG := Lib.hid hgd
  clear hn hc hgd
  go_enter Try.func28, Try.ntmps28
  go_wp2
  go_loopw [3, 4] (fun l i wr => ∃ j : Nat, j ≤ n ∧ i = .int .i64 j ∧ Hid (PfOwn wr w.heap.size l (tabOf (cs.take j)).rows ∧ Below w.heap.size w wr)) (fun _ i _ => n - (intOf i).toNat)
  case atStart => exact ⟨0, by omega, rfl, ⟨PfOwn.nil _ _, Below.refl _ _⟩⟩
  case round =>
    obtain ⟨j, hj, rfl, HR⟩ := hrel
    by_cases hlt : j < n
    · have hjl : j < cs.length := by rw [← HN.out]; exact hlt
      obtain ⟨bb, oo, ea, hb, hca⟩ := (HC.out.below HR.out.2) j hjl
      subst ea
      have hto := take_ok HG.out j (by omega)
      have hcok := HG.out.ok j hjl
      have hnx := congrArg T.rows (tabOf_take cs j hjl)
      obtain ⟨g0, g1, g2, g3, g4, g5, g6, g7⟩ := hca
      generalize cs[j]'_ = c at *
      obtain ⟨no, time, g, ca, cn, via, mt, sq⟩ := c
      simp only at g3 g4
      clear g0 g1 g2 g5 g6 g7
      obtain ⟨rs, hrs⟩ : ∃ rs, rs = (tabOf (cs.take j)).rows := ⟨_, rfl⟩
      have hup : Rising rs := by rw [hrs]; exact hto.1.up
      have hokr : ∀ r ∈ rs, r.Ok := by rw [hrs]; exact hto.1.ok
      rw [← hrs] at hto
      have hrl := hto.2.1
      have HO := HR.out.1
      rw [← hrs] at HO
      have hcn : cn ≤ 32 := hcok.2.2.2.1
      obtain ⟨A3, c3, hv3, hpc⟩ := HO.form
      obtain ⟨n3, hn3⟩ : ∃ n3, n3 = rs.length := ⟨_, rfl⟩
      rw [← hn3] at hv3 hrl
      subst hv3
      replace hnx : (tabOf (cs.take (j + 1))).rows = upd ⟨no, time, g, ca, cn, via, mt, sq⟩ rs := by rw [hnx]; show upd _ _ = _; rw [hrs]
      have HX := Lib.hid (And.intro hnx (And.intro hn3 (And.intro hup (And.intro hokr (And.intro HO hpc)))))
      have hj60 : j ≤ 60 := by omega
      clear hnx hn3 hup hokr HO hpc hto hcok hrs
      obtain ⟨wo, hwo⟩ : ∃ wo, wo = wr := ⟨_, rfl⟩
      subst hwo
      have R0 := heap_alloc_new wo (.cells #[.int .u32 (ca : Int), .int .u8 (cn : Int)] 34)
      have B0 : Below wo.heap.size wo (wo.alloc (.cells #[.int .u32 (ca : Int), .int .u8 (cn : Int)] 34)) := (Below.refl _ _).alloc (Nat.le_refl _) _
      go_wp2
      generalize wo.alloc _ = w2 at *
      go_loopw [6] (fun k wk => ∃ m : Nat, m ≤ n3 ∧ k = .int .i64 m ∧ Hid ((∀ l (hl : l < rs.length), l < m → rs[l].key < key ca cn) ∧ wk.heap[wo.heap.size]? = some (.cells #[.int .u32 (ca : Int), .int .u8 (cn : Int)] 34 (0, 0)) ∧ Below wo.heap.size wo wk)) (fun k _ => n3 - (intOf k).toNat)
      case atStart => exact ⟨0, by omega, rfl, ⟨fun l hl h => (by omega), R0, B0⟩⟩
      case round =>
        obtain ⟨m, hm, rfl, HK⟩ := hrel
        clear R0 B0
        by_cases hmn : m < n3
        · have hml : m < rs.length := by have := HX.out.2.1; omega
          obtain ⟨ad, hA⟩ : ∃ ad, A3 = some ad := by
            rcases A3 with _ | ad
            · have := (HX.out.2.2.2.2.2.none rfl).2; rw [this] at hml; simp at hml
            · exact ⟨ad, rfl⟩
          obtain ⟨ab, ao, asp⟩ := ad
          have hsp : asp = none := by
            rcases HX.out.2.2.2.2.1.2 with ⟨h1, _⟩ | ⟨g, cap, cur, h1, _⟩
            · rw [hA] at h1; cases h1
            · rw [hA] at h1; injection h1 with h1; injection h1 with h1; injection h1
          subst hsp
          subst hA
          have hcell : ∀ W, Below wo.heap.size wo W → W.cell? ⟨ab, ao + m * 2, none⟩ = some (.int .u32 (rs[m].addr : Int)) ∧ W.cell? ⟨ab, ao + m * 2 + 1, none⟩ = some (.int .u8 (rs[m].len : Int)) := fun W hW => by
            have h1 := ((HX.out.2.2.2.2.2.below hW).src _ rfl).2 (m * 2 + 0) _ (pf_at rs m 0 hml (by decide))
            have h2 := ((HX.out.2.2.2.2.2.below hW).src _ rfl).2 (m * 2 + 1) _ (pf_at rs m 1 hml (by decide))
            rw [Addr.add_lit] at h1 h2
            exact ⟨h1, h2⟩
          have hrl2 := (HX.out.2.2.2.1 _ (List.getElem_mem hml)).2.1
          have hah := fun W => ahead_any rs[m].addr rs[m].len ca cn W
          rw [ahead_key (by omega) (by omega)] at hah
          have HRm := HX.out.2.2.1
          have hstep : rs[m].key < key ca cn → ∀ l (hl : l < rs.length), l < m + 1 → rs[l].key < key ca cn := fun hx l hl h => by
            rcases Nat.lt_or_eq_of_le (Nat.lt_succ_iff.1 h) with h1 | h1
            · exact HK.out.1 l hl h1
            · subst h1; exact hx
          have hpos : ¬ rs[m].key < key ca cn → m = pos (key ca cn) rs := fun hx => pos_of (by omega) HK.out.1 (fun l hl h => by
            rcases Nat.lt_or_eq_of_le h with h1 | h1
            · have := HX.out.2.2.1.get h1 hl; omega
            · subst h1; omega)
          have hth : m = pos (key ca cn) rs → thereB (key ca cn) rs = (rs[m].key == key ca cn) := fun e => by
            unfold thereB
            rw [← e, List.getElem?_eq_getElem hml]
          have hkeq : rs[m].key = key ca cn ↔ rs[m].addr = ca ∧ rs[m].len = cn := key_inj (by omega) (by omega)
          have HS := Lib.hid (And.intro hstep (And.intro hpos (And.intro hth hkeq)))
          generalize hr : rs[m] = r at *
          have HAH : Hid (∀ W, Calls Try.prog 33 #[.agg #[.int .u32 (r.addr : Int), .int .u8 (r.len : Int)], .agg #[.int .u32 (ca : Int), .int .u8 (cn : Int)]] W fun e w' => e = .returned (.bool (decide (r.key < key ca cn))) ∧ Below W.heap.size W w') := hah
          have HCE := Lib.hid hcell
          clear hr hah hcell hstep hpos hth hkeq HRm hrl2
          go_upto_region 7 with (fail)
          refine wp_region_noPanic ?_
          refine wp_region_held_drew (S := fun W : World => Below wo.heap.size wo W ∧ W.heap[wo.heap.size]? = some (.cells #[.int .u32 (ca : Int), .int .u8 (cn : Int)] 34 (0, 0))) (by kernel_rfl) ⟨HK.out.2.2.drew, HK.out.2.1⟩ (fun hHeld => ?_)
          generalize wr.drew = wd at *
          refine wpAnyH_take (i := 0) (oi := { dst := some 20, op := Op.move (Operand.tmp 6), type := 3, pos := "ref.go:49", after := #[], guard := none }) (v := .int .i64 (m : Int)) rfl (by kernel_rfl) (by kernel_rfl) (by kernel_rfl) (fun _ _ _ h => h) (Or.inl ⟨by rfl, fun w hSw => by go_simp⟩) (by assumption) ?_
          try simp only [Act.put, List.setIfInBounds_toArray, List.set_cons_zero, List.set_cons_succ]
          refine wpAnyH_take (i := 1) (oi := { dst := some 21, op := Op.move (Operand.tmp 3), type := 71, pos := "ref.go:49", after := #[], guard := none }) (v := .slice (some ⟨ab, ao, none⟩) n3 c3) rfl (by kernel_rfl) (by kernel_rfl) (by kernel_rfl) (fun _ _ _ h => h) (Or.inl ⟨by rfl, fun w hSw => by go_simp⟩) (by assumption) ?_
          try simp only [Act.put, List.setIfInBounds_toArray, List.set_cons_zero, List.set_cons_succ]
          refine wpAnyH_take (i := 2) (oi := { dst := some 22, op := Op.call { callee := Callee.builtin Builtin.len, args := #[Operand.tmp 21], argTypes := #[71] }, type := 3, pos := "ref.go:49", after := #[{ on := 1, ground := Ground.data }], guard := none }) (v := .int .i64 (n3 : Int)) rfl (by kernel_rfl) (by kernel_rfl) (by kernel_rfl) (fun _ _ _ h => h) (Or.inl ⟨by rfl, fun w hSw => by go_simp⟩) (by assumption) ?_
          try simp only [Act.put, List.setIfInBounds_toArray, List.set_cons_zero, List.set_cons_succ]
          refine wpAnyH_take (i := 3) (oi := { dst := some 23, op := Op.binOp BinOp.lss 3 (Operand.tmp 20) (Operand.tmp 22) 3, type := 4, pos := "ref.go:49", after := #[{ on := 0, ground := Ground.data }, { on := 2, ground := Ground.data }], guard := none }) (v := .bool true) rfl (by kernel_rfl) (by kernel_rfl) (by kernel_rfl) (fun _ _ _ h => h) (Or.inl ⟨by rfl, fun w hSw => by go_simp⟩) (by assumption) ?_
          try simp only [Act.put, List.setIfInBounds_toArray, List.set_cons_zero, List.set_cons_succ]
          refine wpAnyH_take (i := 4) (oi := { dst := some 24, op := Op.move (Operand.tmp 23), type := 4, pos := "ref.go:49", after := #[{ on := 3, ground := Ground.data }], guard := none }) (v := .bool true) rfl (by kernel_rfl) (by kernel_rfl) (by kernel_rfl) (fun _ _ _ h => h) (Or.inl ⟨by rfl, fun w hSw => by go_simp⟩) (by assumption) ?_
          try simp only [Act.put, List.setIfInBounds_toArray, List.set_cons_zero, List.set_cons_succ]
          refine wpAnyH_take (i := 5) (oi := { dst := some 25, op := Op.move (Operand.tmp 3), type := 71, pos := "ref.go:49", after := #[{ on := 4, ground := Ground.guard }], guard := some (4, true) }) (v := .slice (some ⟨ab, ao, none⟩) n3 c3) rfl (by kernel_rfl) (by kernel_rfl) (by kernel_rfl) (fun _ _ _ h => h) (Or.inl ⟨by rfl, fun w hSw => by go_simp⟩) (by assumption) ?_
          try simp only [Act.put, List.setIfInBounds_toArray, List.set_cons_zero, List.set_cons_succ]
          refine wpAnyH_take (i := 6) (oi := { dst := some 26, op := Op.move (Operand.tmp 6), type := 3, pos := "ref.go:49", after := #[{ on := 4, ground := Ground.guard }], guard := some (4, true) }) (v := .int .i64 (m : Int)) rfl (by kernel_rfl) (by kernel_rfl) (by kernel_rfl) (fun _ _ _ h => h) (Or.inl ⟨by rfl, fun w hSw => by go_simp⟩) (by assumption) ?_
          try simp only [Act.put, List.setIfInBounds_toArray, List.set_cons_zero, List.set_cons_succ]
          refine wpAnyH_take (i := 7) (oi := { dst := some 27, op := Op.indexAddr 71 (Operand.tmp 25) (Operand.tmp 26), type := 0, pos := "ref.go:49", after := #[{ on := 5, ground := Ground.data }, { on := 6, ground := Ground.data }, { on := 4, ground := Ground.guard }], guard := some (4, true) }) (v := .pointer (some ⟨ab, ao + m * 2, none⟩)) rfl (by kernel_rfl) (by kernel_rfl) (by kernel_rfl) (fun _ _ _ h => h) (Or.inl ⟨by rfl, fun w hSw => by go_simp⟩) (by assumption) ?_
          try simp only [Act.put, List.setIfInBounds_toArray, List.set_cons_zero, List.set_cons_succ]
          refine wpAnyH_take (i := 8) (oi := { dst := some 28, op := Op.load 34 (Operand.tmp 27), type := 34, pos := "ref.go:49", after := #[{ on := 7, ground := Ground.data }, { on := 4, ground := Ground.guard }], guard := some (4, true) }) (v := .agg #[.int .u32 (r.addr : Int), .int .u8 (r.len : Int)]) rfl (by kernel_rfl) (by kernel_rfl) (by kernel_rfl) (fun _ _ _ h => h) (Or.inl ⟨by rfl, fun w hSw => by obtain ⟨k0, k1⟩ := HCE.out _ hSw.1; go_simp⟩) (by assumption) ?_
          try simp only [Act.put, List.setIfInBounds_toArray, List.set_cons_zero, List.set_cons_succ]
          refine wpAnyH_take (i := 9) (oi := { dst := some 29, op := Op.load 34 (Operand.tmp 5), type := 34, pos := "ref.go:49", after := #[{ on := 4, ground := Ground.guard }], guard := some (4, true) }) (v := .agg #[.int .u32 (ca : Int), .int .u8 (cn : Int)]) rfl (by kernel_rfl) (by kernel_rfl) (by kernel_rfl) (fun _ _ _ h => h) (Or.inl ⟨by rfl, fun w hSw => by obtain ⟨k0, k1⟩ := row2 hSw.2; go_simp⟩) (by assumption) ?_
          try simp only [Act.put, List.setIfInBounds_toArray, List.set_cons_zero, List.set_cons_succ]
          refine wpAnyH_ready (rs := [10]) (by kernel_rfl) (by simp) ?_
          refine AllReadyH.cons (o := { dst := some 30, op := Op.call { callee := Callee.value (Operand.func 33), args := #[Operand.tmp 28, Operand.tmp 29], argTypes := #[34, 34] }, type := 4, pos := "ref.go:49", after := #[{ on := 8, ground := Ground.data }, { on := 9, ground := Ground.data }, { on := 4, ground := Ground.chain }, { on := 4, ground := Ground.guard }], guard := some (4, true) }) rfl (fun K hK => ?_) AllReadyH.nil
          go_simp
          with_reducible refine (HAH.out _).mono ?_
          rintro e w3 ⟨rfl, B3⟩
          have h3 := hHeld.1.trans (B3.mono hHeld.1.size)
          have h4 : w3.heap[wo.heap.size]? = _ := (B3.block _ (Array.getElem?_eq_some_iff.1 hHeld.2).1).trans hHeld.2
          refine hK.out _ _ (⟨h3, h4⟩) (fun hHeld => ?_)
          clear hK K
          try simp only [Act.put, List.setIfInBounds_toArray, List.set_cons_zero, List.set_cons_succ]
          refine wpAnyH_take (i := 11) (oi := { dst := some 31, op := Op.pick (Operand.tmp 24) (Operand.tmp 30) (Operand.const (Value.bool false)), type := 4, pos := "ref.go:49", after := #[{ on := 4, ground := Ground.data }, { on := 10, ground := Ground.data }], guard := none }) (v := .bool (decide (r.key < key ca cn))) rfl (by kernel_rfl) (by kernel_rfl) (by kernel_rfl) (fun _ _ _ h => h) (Or.inl ⟨by rfl, fun w hSw => by go_simp⟩) (by assumption) ?_
          try simp only [Act.put, List.setIfInBounds_toArray, List.set_cons_zero, List.set_cons_succ]
          refine wpAnyH_done (by kernel_rfl) ?_ _
          try unfold NoPanic
          have HE := Lib.hid hHeld
          clear hHeld
          by_cases hx : r.key < key ca cn
          · have hd : decide (r.key < key ca cn) = true := decide_eq_true hx
            have HM := Lib.hid (HS.out.1 hx)
            clear hx
            go_wp2
            go_roundw
            case rel => exact ⟨m + 1, by omega, by go_num, ⟨HM.out, HE.out.2, HE.out.1⟩⟩
            case measure => simp [intOf]; omega
          · have hd : decide (r.key < key ca cn) = false := decide_eq_false hx
            have hp := HS.out.2.1 hx
            have hth := HS.out.2.2.1 hp
            have HP := Lib.hid hp
            clear hx hp
            by_cases he : r.addr = ca ∧ r.len = cn
            · have hk := HS.out.2.2.2.2 he
              have HTH : Hid (thereB (key ca cn) rs = true) := by show _ = _; rw [hth, hk]; simp
              obtain ⟨e1, e2⟩ := he
              clear hth hk
              go_upto_region 9 with (fail)
              refine wp_region_noPanic ?_
              refine wp_region_held_drew (S := fun W : World => Below wo.heap.size wo W ∧ W.heap[wo.heap.size]? = some (.cells #[.int .u32 (ca : Int), .int .u8 (cn : Int)] 34 (0, 0))) (by kernel_rfl) ⟨HE.out.1.drew, HE.out.2⟩ (fun hHeld => ?_)
              generalize w3.drew = wd at *
              refine wpAnyH_take (i := 0) (oi := { dst := some 34, op := Op.move (Operand.tmp 6), type := 3, pos := "ref.go:52", after := #[], guard := none }) (v := .int .i64 (m : Int)) rfl (by kernel_rfl) (by kernel_rfl) (by kernel_rfl) (fun _ _ _ h => h) (Or.inl ⟨by rfl, fun w hSw => by go_simp⟩) (by assumption) ?_
              try simp only [Act.put, List.setIfInBounds_toArray, List.set_cons_zero, List.set_cons_succ]
              refine wpAnyH_take (i := 1) (oi := { dst := some 35, op := Op.move (Operand.tmp 3), type := 71, pos := "ref.go:52", after := #[], guard := none }) (v := .slice (some ⟨ab, ao, none⟩) n3 c3) rfl (by kernel_rfl) (by kernel_rfl) (by kernel_rfl) (fun _ _ _ h => h) (Or.inl ⟨by rfl, fun w hSw => by go_simp⟩) (by assumption) ?_
              try simp only [Act.put, List.setIfInBounds_toArray, List.set_cons_zero, List.set_cons_succ]
              refine wpAnyH_take (i := 2) (oi := { dst := some 36, op := Op.call { callee := Callee.builtin Builtin.len, args := #[Operand.tmp 35], argTypes := #[71] }, type := 3, pos := "ref.go:52", after := #[{ on := 1, ground := Ground.data }], guard := none }) (v := .int .i64 (n3 : Int)) rfl (by kernel_rfl) (by kernel_rfl) (by kernel_rfl) (fun _ _ _ h => h) (Or.inl ⟨by rfl, fun w hSw => by go_simp⟩) (by assumption) ?_
              try simp only [Act.put, List.setIfInBounds_toArray, List.set_cons_zero, List.set_cons_succ]
              refine wpAnyH_take (i := 3) (oi := { dst := some 37, op := Op.binOp BinOp.lss 3 (Operand.tmp 34) (Operand.tmp 36) 3, type := 4, pos := "ref.go:52", after := #[{ on := 0, ground := Ground.data }, { on := 2, ground := Ground.data }], guard := none }) (v := .bool true) rfl (by kernel_rfl) (by kernel_rfl) (by kernel_rfl) (fun _ _ _ h => h) (Or.inl ⟨by rfl, fun w hSw => by go_simp⟩) (by assumption) ?_
              try simp only [Act.put, List.setIfInBounds_toArray, List.set_cons_zero, List.set_cons_succ]
              refine wpAnyH_take (i := 4) (oi := { dst := some 38, op := Op.move (Operand.tmp 37), type := 4, pos := "ref.go:52", after := #[{ on := 3, ground := Ground.data }], guard := none }) (v := .bool true) rfl (by kernel_rfl) (by kernel_rfl) (by kernel_rfl) (fun _ _ _ h => h) (Or.inl ⟨by rfl, fun w hSw => by go_simp⟩) (by assumption) ?_
              try simp only [Act.put, List.setIfInBounds_toArray, List.set_cons_zero, List.set_cons_succ]
              refine wpAnyH_take (i := 5) (oi := { dst := some 39, op := Op.move (Operand.tmp 3), type := 71, pos := "ref.go:52", after := #[{ on := 4, ground := Ground.guard }], guard := some (4, true) }) (v := .slice (some ⟨ab, ao, none⟩) n3 c3) rfl (by kernel_rfl) (by kernel_rfl) (by kernel_rfl) (fun _ _ _ h => h) (Or.inl ⟨by rfl, fun w hSw => by go_simp⟩) (by assumption) ?_
              try simp only [Act.put, List.setIfInBounds_toArray, List.set_cons_zero, List.set_cons_succ]
              refine wpAnyH_take (i := 6) (oi := { dst := some 40, op := Op.move (Operand.tmp 6), type := 3, pos := "ref.go:52", after := #[{ on := 4, ground := Ground.guard }], guard := some (4, true) }) (v := .int .i64 (m : Int)) rfl (by kernel_rfl) (by kernel_rfl) (by kernel_rfl) (fun _ _ _ h => h) (Or.inl ⟨by rfl, fun w hSw => by go_simp⟩) (by assumption) ?_
              try simp only [Act.put, List.setIfInBounds_toArray, List.set_cons_zero, List.set_cons_succ]
              refine wpAnyH_take (i := 7) (oi := { dst := some 41, op := Op.indexAddr 71 (Operand.tmp 39) (Operand.tmp 40), type := 0, pos := "ref.go:52", after := #[{ on := 5, ground := Ground.data }, { on := 6, ground := Ground.data }, { on := 4, ground := Ground.guard }], guard := some (4, true) }) (v := .pointer (some ⟨ab, ao + m * 2, none⟩)) rfl (by kernel_rfl) (by kernel_rfl) (by kernel_rfl) (fun _ _ _ h => h) (Or.inl ⟨by rfl, fun w hSw => by go_simp⟩) (by assumption) ?_
              try simp only [Act.put, List.setIfInBounds_toArray, List.set_cons_zero, List.set_cons_succ]
              refine wpAnyH_take (i := 8) (oi := { dst := some 42, op := Op.load 34 (Operand.tmp 41), type := 34, pos := "ref.go:52", after := #[{ on := 7, ground := Ground.data }, { on := 4, ground := Ground.guard }], guard := some (4, true) }) (v := .agg #[.int .u32 (ca : Int), .int .u8 (cn : Int)]) rfl (by kernel_rfl) (by kernel_rfl) (by kernel_rfl) (fun _ _ _ h => h) (Or.inl ⟨by rfl, fun w hSw => by obtain ⟨k0, k1⟩ := HCE.out _ hSw.1; rw [e1] at k0; rw [e2] at k1; go_simp⟩) (by assumption) ?_
              try simp only [Act.put, List.setIfInBounds_toArray, List.set_cons_zero, List.set_cons_succ]
              refine wpAnyH_take (i := 9) (oi := { dst := some 43, op := Op.load 34 (Operand.tmp 5), type := 34, pos := "ref.go:52", after := #[{ on := 4, ground := Ground.guard }], guard := some (4, true) }) (v := .agg #[.int .u32 (ca : Int), .int .u8 (cn : Int)]) rfl (by kernel_rfl) (by kernel_rfl) (by kernel_rfl) (fun _ _ _ h => h) (Or.inl ⟨by rfl, fun w hSw => by obtain ⟨k0, k1⟩ := row2 hSw.2; go_simp⟩) (by assumption) ?_
              try simp only [Act.put, List.setIfInBounds_toArray, List.set_cons_zero, List.set_cons_succ]
              refine wpAnyH_take (i := 10) (oi := { dst := some 44, op := Op.binOp BinOp.eql 34 (Operand.tmp 42) (Operand.tmp 43) 34, type := 4, pos := "ref.go:52", after := #[{ on := 8, ground := Ground.data }, { on := 9, ground := Ground.data }, { on := 4, ground := Ground.guard }], guard := some (4, true) }) (v := .bool true) rfl (by kernel_rfl) (by kernel_rfl) (by kernel_rfl) (fun _ _ _ h => h) (Or.inl ⟨by rfl, fun w hSw => by go_simp⟩) (by assumption) ?_
              try simp only [Act.put, List.setIfInBounds_toArray, List.set_cons_zero, List.set_cons_succ]
              refine wpAnyH_take (i := 11) (oi := { dst := some 45, op := Op.pick (Operand.tmp 38) (Operand.tmp 44) (Operand.const (Value.bool false)), type := 4, pos := "ref.go:52", after := #[{ on := 4, ground := Ground.data }, { on := 10, ground := Ground.data }], guard := none }) (v := .bool true) rfl (by kernel_rfl) (by kernel_rfl) (by kernel_rfl) (fun _ _ _ h => h) (Or.inl ⟨by rfl, fun w hSw => by go_simp⟩) (by assumption) ?_
              try simp only [Act.put, List.setIfInBounds_toArray, List.set_cons_zero, List.set_cons_succ]
              refine wpAnyH_done (by kernel_rfl) ?_ _
              try unfold NoPanic
              have HE2 := Lib.hid hHeld
              clear hHeld
              go_wp2
              go_roundw
              case rel =>
                refine ⟨j + 1, by omega, by go_num, ⟨?_, HR.out.2.trans (HE2.out.1.mono HR.out.2.size)⟩⟩
                have := HX.out.2.2.2.2.1.kept HE2.out.1
                unfold PfOwn
                rw [HX.out.1, (pf_upd_there (c := ⟨no, time, g, ca, cn, via, mt, sq⟩) HTH.out).1, (pf_upd_there (c := ⟨no, time, g, ca, cn, via, mt, sq⟩) HTH.out).2]
                have h2 := HX.out.2.1
                rw [h2]
                unfold PfOwn at this
                rwa [← h2] at this ⊢
              case measure => simp [intOf]; omega
            · have HTH : Hid (thereB (key ca cn) rs = false) := by
                show _ = _
                rw [hth]
                exact beq_eq_false_iff_ne.2 fun e => he (HS.out.2.2.2.1 e)
              have he2 : ¬ ((r.addr : Int) = ca ∧ (r.len : Int) = cn) := by omega
              clear hth he
              have HE3 := Lib.hid (show (r.addr : Int) = ca → ¬ (r.len : Int) = cn from fun x y => he2 ⟨x, y⟩)
              clear he2
              go_upto_region 9 with (fail)
              refine wp_region_noPanic ?_
              refine wp_region_held_drew (S := fun W : World => Below wo.heap.size wo W ∧ W.heap[wo.heap.size]? = some (.cells #[.int .u32 (ca : Int), .int .u8 (cn : Int)] 34 (0, 0))) (by kernel_rfl) ⟨HE.out.1.drew, HE.out.2⟩ (fun hHeld => ?_)
              generalize w3.drew = wd at *
              refine wpAnyH_take (i := 0) (oi := { dst := some 34, op := Op.move (Operand.tmp 6), type := 3, pos := "ref.go:52", after := #[], guard := none }) (v := .int .i64 (m : Int)) rfl (by kernel_rfl) (by kernel_rfl) (by kernel_rfl) (fun _ _ _ h => h) (Or.inl ⟨by rfl, fun w hSw => by go_simp⟩) (by assumption) ?_
              try simp only [Act.put, List.setIfInBounds_toArray, List.set_cons_zero, List.set_cons_succ]
              refine wpAnyH_take (i := 1) (oi := { dst := some 35, op := Op.move (Operand.tmp 3), type := 71, pos := "ref.go:52", after := #[], guard := none }) (v := .slice (some ⟨ab, ao, none⟩) n3 c3) rfl (by kernel_rfl) (by kernel_rfl) (by kernel_rfl) (fun _ _ _ h => h) (Or.inl ⟨by rfl, fun w hSw => by go_simp⟩) (by assumption) ?_
              try simp only [Act.put, List.setIfInBounds_toArray, List.set_cons_zero, List.set_cons_succ]
              refine wpAnyH_take (i := 2) (oi := { dst := some 36, op := Op.call { callee := Callee.builtin Builtin.len, args := #[Operand.tmp 35], argTypes := #[71] }, type := 3, pos := "ref.go:52", after := #[{ on := 1, ground := Ground.data }], guard := none }) (v := .int .i64 (n3 : Int)) rfl (by kernel_rfl) (by kernel_rfl) (by kernel_rfl) (fun _ _ _ h => h) (Or.inl ⟨by rfl, fun w hSw => by go_simp⟩) (by assumption) ?_
              try simp only [Act.put, List.setIfInBounds_toArray, List.set_cons_zero, List.set_cons_succ]
              refine wpAnyH_take (i := 3) (oi := { dst := some 37, op := Op.binOp BinOp.lss 3 (Operand.tmp 34) (Operand.tmp 36) 3, type := 4, pos := "ref.go:52", after := #[{ on := 0, ground := Ground.data }, { on := 2, ground := Ground.data }], guard := none }) (v := .bool true) rfl (by kernel_rfl) (by kernel_rfl) (by kernel_rfl) (fun _ _ _ h => h) (Or.inl ⟨by rfl, fun w hSw => by go_simp⟩) (by assumption) ?_
              try simp only [Act.put, List.setIfInBounds_toArray, List.set_cons_zero, List.set_cons_succ]
              refine wpAnyH_take (i := 4) (oi := { dst := some 38, op := Op.move (Operand.tmp 37), type := 4, pos := "ref.go:52", after := #[{ on := 3, ground := Ground.data }], guard := none }) (v := .bool true) rfl (by kernel_rfl) (by kernel_rfl) (by kernel_rfl) (fun _ _ _ h => h) (Or.inl ⟨by rfl, fun w hSw => by go_simp⟩) (by assumption) ?_
              try simp only [Act.put, List.setIfInBounds_toArray, List.set_cons_zero, List.set_cons_succ]
              refine wpAnyH_take (i := 5) (oi := { dst := some 39, op := Op.move (Operand.tmp 3), type := 71, pos := "ref.go:52", after := #[{ on := 4, ground := Ground.guard }], guard := some (4, true) }) (v := .slice (some ⟨ab, ao, none⟩) n3 c3) rfl (by kernel_rfl) (by kernel_rfl) (by kernel_rfl) (fun _ _ _ h => h) (Or.inl ⟨by rfl, fun w hSw => by go_simp⟩) (by assumption) ?_
              try simp only [Act.put, List.setIfInBounds_toArray, List.set_cons_zero, List.set_cons_succ]
              refine wpAnyH_take (i := 6) (oi := { dst := some 40, op := Op.move (Operand.tmp 6), type := 3, pos := "ref.go:52", after := #[{ on := 4, ground := Ground.guard }], guard := some (4, true) }) (v := .int .i64 (m : Int)) rfl (by kernel_rfl) (by kernel_rfl) (by kernel_rfl) (fun _ _ _ h => h) (Or.inl ⟨by rfl, fun w hSw => by go_simp⟩) (by assumption) ?_
              try simp only [Act.put, List.setIfInBounds_toArray, List.set_cons_zero, List.set_cons_succ]
              refine wpAnyH_take (i := 7) (oi := { dst := some 41, op := Op.indexAddr 71 (Operand.tmp 39) (Operand.tmp 40), type := 0, pos := "ref.go:52", after := #[{ on := 5, ground := Ground.data }, { on := 6, ground := Ground.data }, { on := 4, ground := Ground.guard }], guard := some (4, true) }) (v := .pointer (some ⟨ab, ao + m * 2, none⟩)) rfl (by kernel_rfl) (by kernel_rfl) (by kernel_rfl) (fun _ _ _ h => h) (Or.inl ⟨by rfl, fun w hSw => by go_simp⟩) (by assumption) ?_
              try simp only [Act.put, List.setIfInBounds_toArray, List.set_cons_zero, List.set_cons_succ]
              refine wpAnyH_take (i := 8) (oi := { dst := some 42, op := Op.load 34 (Operand.tmp 41), type := 34, pos := "ref.go:52", after := #[{ on := 7, ground := Ground.data }, { on := 4, ground := Ground.guard }], guard := some (4, true) }) (v := .agg #[.int .u32 (r.addr : Int), .int .u8 (r.len : Int)]) rfl (by kernel_rfl) (by kernel_rfl) (by kernel_rfl) (fun _ _ _ h => h) (Or.inl ⟨by rfl, fun w hSw => by obtain ⟨k0, k1⟩ := HCE.out _ hSw.1; go_simp⟩) (by assumption) ?_
              try simp only [Act.put, List.setIfInBounds_toArray, List.set_cons_zero, List.set_cons_succ]
              refine wpAnyH_take (i := 9) (oi := { dst := some 43, op := Op.load 34 (Operand.tmp 5), type := 34, pos := "ref.go:52", after := #[{ on := 4, ground := Ground.guard }], guard := some (4, true) }) (v := .agg #[.int .u32 (ca : Int), .int .u8 (cn : Int)]) rfl (by kernel_rfl) (by kernel_rfl) (by kernel_rfl) (fun _ _ _ h => h) (Or.inl ⟨by rfl, fun w hSw => by obtain ⟨k0, k1⟩ := row2 hSw.2; go_simp⟩) (by assumption) ?_
              try simp only [Act.put, List.setIfInBounds_toArray, List.set_cons_zero, List.set_cons_succ]
              refine wpAnyH_take (i := 10) (oi := { dst := some 44, op := Op.binOp BinOp.eql 34 (Operand.tmp 42) (Operand.tmp 43) 34, type := 4, pos := "ref.go:52", after := #[{ on := 8, ground := Ground.data }, { on := 9, ground := Ground.data }, { on := 4, ground := Ground.guard }], guard := some (4, true) }) (v := .bool false) rfl (by kernel_rfl) (by kernel_rfl) (by kernel_rfl) (fun _ _ _ h => h) (Or.inl ⟨by rfl, fun w hSw => by go_simp; exact HE3.out⟩) (by assumption) ?_
              try simp only [Act.put, List.setIfInBounds_toArray, List.set_cons_zero, List.set_cons_succ]
              refine wpAnyH_take (i := 11) (oi := { dst := some 45, op := Op.pick (Operand.tmp 38) (Operand.tmp 44) (Operand.const (Value.bool false)), type := 4, pos := "ref.go:52", after := #[{ on := 4, ground := Ground.data }, { on := 10, ground := Ground.data }], guard := none }) (v := .bool false) rfl (by kernel_rfl) (by kernel_rfl) (by kernel_rfl) (fun _ _ _ h => h) (Or.inl ⟨by rfl, fun w hSw => by go_simp⟩) (by assumption) ?_
              try simp only [Act.put, List.setIfInBounds_toArray, List.set_cons_zero, List.set_cons_succ]
              refine wpAnyH_done (by kernel_rfl) ?_ _
              try unfold NoPanic
              have HE9 := Lib.hid hHeld
              clear hHeld
              have hcm : ¬ c3 = m := by have := HX.out.2.2.2.2.2.cap; have := HX.out.2.1; omega
              have hmn3 : m ≤ n3 := by omega
              have hmc : m ≤ c3 := by have := HX.out.2.2.2.2.2.cap; have := HX.out.2.1; omega
              go_wp2_with (first
                | (at_builtin; refine app_pf rfl (.tmp 46) (.tmp 49) rfl wo.heap.size (.slice none 0 0) [] (rs.take m) (some ⟨ab, ao, none⟩) m c3 rfl rfl (PfOwn.nil _ _) (by have := HX.out.2.1; rw [List.length_take]; omega) (fun e => by cases e) (fun ad e j u hj => ((HX.out.2.2.2.2.2.below HE9.out.1).src ad e).2 j u (by rw [← pf_take, List.getElem?_take] at hj; (split at hj <;> first | exact hj | cases hj))) (by have := HX.out.2.1; simp only [List.length_nil, List.length_take]; omega) HE9.out.1.size ?_; intro v1 w1 O1 G1; have P1 := (G1.block wo.heap.size (Array.getElem?_eq_some_iff.1 HE9.out.2).1 (by intro e; cases e)).trans HE9.out.2; have HZ1 := Lib.hid (And.intro O1 (HE9.out.1.grown G1 HE9.out.1.size (by intro k e; cases e))); obtain ⟨p0, p1⟩ := row2 P1; clear O1 G1 P1)
                | (at_builtin; refine app_pf rfl (.tmp 51) (.tmp 53) rfl wo.heap.size v1 ([] ++ rs.take m) [(R.first ⟨no, time, g, ca, cn, via, mt, sq⟩)] (some ⟨w1.heap.size, 0, none⟩) 1 1 rfl rfl (HZ1.out.1.kept ((Below.refl _ _).alloc (Nat.le_refl _) _)) rfl (fun e => by cases e) (fun ad e => by injection e with e; subst e; intro j u hj; rw [Addr.add_lit, Nat.zero_add, cell_of_row _ _ j _ 34 (0, 0) (heap_alloc_new w1 _), ← hj]; simp [R.pf, R.first]) (by have := HX.out.2.1; simp only [List.length_nil, List.length_append, List.length_take, List.length_cons]; omega) (by have := HZ1.out.2.size; simp; omega) ?_; intro v2 w2' O2 G2; have HZ2 := Lib.hid (And.intro O2 ((HZ1.out.2.alloc HZ1.out.2.size _).grown G2 (by have := HZ1.out.2.size; simp; omega) (fun k e => (HZ1.out.1.lt k e).1))); clear O2 G2 p0 p1)
                | (at_builtin; refine app_pf rfl (.tmp 55) (.tmp 58) rfl wo.heap.size v2 ([] ++ rs.take m ++ [(R.first ⟨no, time, g, ca, cn, via, mt, sq⟩)]) (rs.drop m) (some ⟨ab, ao + m * 2, none⟩) (n3 - m) (c3 - m) rfl rfl HZ2.out.1 (by have := HX.out.2.1; rw [List.length_drop]; omega) (fun e => by cases e) (fun ad e => by injection e with e; subst e; intro j u hj; have h1 := ((HX.out.2.2.2.2.2.below HZ2.out.2).src _ rfl).2 (m * 2 + j) u (by rw [← pf_drop, List.getElem?_drop] at hj; exact hj); rw [Addr.add_lit] at h1 ⊢; rw [Nat.add_assoc]; exact h1) (by have := HX.out.2.1; simp only [List.length_nil, List.length_append, List.length_take, List.length_cons, List.length_drop]; omega) HZ2.out.2.size ?_; intro v3 w3' O3 G3; have HZ3 := Lib.hid (And.intro O3 (HZ2.out.2.grown G3 HZ2.out.2.size (fun k e => (HZ2.out.1.lt k e).1))); clear O3 G3))
              go_roundw
              case rel =>
                refine ⟨j + 1, by omega, by go_num, ⟨?_, HR.out.2.trans (HZ3.out.2.mono HR.out.2.size)⟩⟩
                have hu := upd_new (c := ⟨no, time, g, ca, cn, via, mt, sq⟩) (rs := rs) (there_no HTH.out)
                rw [key_mk, ← HP.out] at hu
                rw [HX.out.1, hu]
                have := HZ3.out.1.mono HR.out.2.size
                simpa using this
              case measure => simp [intOf]; omega
        · have hp : m = pos (key ca cn) rs := pos_of (by have := HX.out.2.1; omega) HK.out.1 (fun l hl h => by have := HX.out.2.1; omega)
          obtain rfl : m = n3 := by omega
          have HP := Lib.hid hp
          have HTH : Hid (thereB (key ca cn) rs = false) := by
            show _ = _
            unfold thereB
            rw [← hp, List.getElem?_eq_none (by have := HX.out.2.1; omega)]
          clear hp
          by_cases hcn3 : c3 = m
          · subst c3
            go_upto_region 7 with (fail)
            refine wp_region_noPanic ?_
            refine wp_region_held_drew (S := fun W : World => Below wo.heap.size wo W ∧ W.heap[wo.heap.size]? = some (.cells #[.int .u32 (ca : Int), .int .u8 (cn : Int)] 34 (0, 0))) (by kernel_rfl) ⟨HK.out.2.2.drew, HK.out.2.1⟩ (fun hHeld => ?_)
            generalize wr.drew = wd at *
            refine wpAnyH_take (i := 0) (oi := { dst := some 20, op := Op.move (Operand.tmp 6), type := 3, pos := "ref.go:49", after := #[], guard := none }) (v := .int .i64 (m : Int)) rfl (by kernel_rfl) (by kernel_rfl) (by kernel_rfl) (fun _ _ _ h => h) (Or.inl ⟨by rfl, fun w hSw => by go_simp⟩) (by assumption) ?_
            try simp only [Act.put, List.setIfInBounds_toArray, List.set_cons_zero, List.set_cons_succ]
            refine wpAnyH_take (i := 1) (oi := { dst := some 21, op := Op.move (Operand.tmp 3), type := 71, pos := "ref.go:49", after := #[], guard := none }) (v := .slice A3 m m) rfl (by kernel_rfl) (by kernel_rfl) (by kernel_rfl) (fun _ _ _ h => h) (Or.inl ⟨by rfl, fun w hSw => by go_simp⟩) (by assumption) ?_
            try simp only [Act.put, List.setIfInBounds_toArray, List.set_cons_zero, List.set_cons_succ]
            refine wpAnyH_take (i := 2) (oi := { dst := some 22, op := Op.call { callee := Callee.builtin Builtin.len, args := #[Operand.tmp 21], argTypes := #[71] }, type := 3, pos := "ref.go:49", after := #[{ on := 1, ground := Ground.data }], guard := none }) (v := .int .i64 (m : Int)) rfl (by kernel_rfl) (by kernel_rfl) (by kernel_rfl) (fun _ _ _ h => h) (Or.inl ⟨by rfl, fun w hSw => by go_simp⟩) (by assumption) ?_
            try simp only [Act.put, List.setIfInBounds_toArray, List.set_cons_zero, List.set_cons_succ]
            refine wpAnyH_take (i := 3) (oi := { dst := some 23, op := Op.binOp BinOp.lss 3 (Operand.tmp 20) (Operand.tmp 22) 3, type := 4, pos := "ref.go:49", after := #[{ on := 0, ground := Ground.data }, { on := 2, ground := Ground.data }], guard := none }) (v := .bool false) rfl (by kernel_rfl) (by kernel_rfl) (by kernel_rfl) (fun _ _ _ h => h) (Or.inl ⟨by rfl, fun w hSw => by go_simp⟩) (by assumption) ?_
            try simp only [Act.put, List.setIfInBounds_toArray, List.set_cons_zero, List.set_cons_succ]
            refine wpAnyH_take (i := 4) (oi := { dst := some 24, op := Op.move (Operand.tmp 23), type := 4, pos := "ref.go:49", after := #[{ on := 3, ground := Ground.data }], guard := none }) (v := .bool false) rfl (by kernel_rfl) (by kernel_rfl) (by kernel_rfl) (fun _ _ _ h => h) (Or.inl ⟨by rfl, fun w hSw => by go_simp⟩) (by assumption) ?_
            try simp only [Act.put, List.setIfInBounds_toArray, List.set_cons_zero, List.set_cons_succ]
            refine wpAnyH_take (i := 5) (oi := { dst := some 25, op := Op.move (Operand.tmp 3), type := 71, pos := "ref.go:49", after := #[{ on := 4, ground := Ground.guard }], guard := some (4, true) }) (v := undef) rfl (by kernel_rfl) (by kernel_rfl) (by kernel_rfl) (fun _ _ _ h => h) (Or.inr ⟨by rfl, rfl⟩) (by assumption) ?_
            try simp only [Act.put, List.setIfInBounds_toArray, List.set_cons_zero, List.set_cons_succ]
            refine wpAnyH_take (i := 6) (oi := { dst := some 26, op := Op.move (Operand.tmp 6), type := 3, pos := "ref.go:49", after := #[{ on := 4, ground := Ground.guard }], guard := some (4, true) }) (v := undef) rfl (by kernel_rfl) (by kernel_rfl) (by kernel_rfl) (fun _ _ _ h => h) (Or.inr ⟨by rfl, rfl⟩) (by assumption) ?_
            try simp only [Act.put, List.setIfInBounds_toArray, List.set_cons_zero, List.set_cons_succ]
            refine wpAnyH_take (i := 7) (oi := { dst := some 27, op := Op.indexAddr 71 (Operand.tmp 25) (Operand.tmp 26), type := 0, pos := "ref.go:49", after := #[{ on := 5, ground := Ground.data }, { on := 6, ground := Ground.data }, { on := 4, ground := Ground.guard }], guard := some (4, true) }) (v := undef) rfl (by kernel_rfl) (by kernel_rfl) (by kernel_rfl) (fun _ _ _ h => h) (Or.inr ⟨by rfl, rfl⟩) (by assumption) ?_
            try simp only [Act.put, List.setIfInBounds_toArray, List.set_cons_zero, List.set_cons_succ]
            refine wpAnyH_take (i := 8) (oi := { dst := some 28, op := Op.load 34 (Operand.tmp 27), type := 34, pos := "ref.go:49", after := #[{ on := 7, ground := Ground.data }, { on := 4, ground := Ground.guard }], guard := some (4, true) }) (v := undef) rfl (by kernel_rfl) (by kernel_rfl) (by kernel_rfl) (fun _ _ _ h => h) (Or.inr ⟨by rfl, rfl⟩) (by assumption) ?_
            try simp only [Act.put, List.setIfInBounds_toArray, List.set_cons_zero, List.set_cons_succ]
            refine wpAnyH_take (i := 9) (oi := { dst := some 29, op := Op.load 34 (Operand.tmp 5), type := 34, pos := "ref.go:49", after := #[{ on := 4, ground := Ground.guard }], guard := some (4, true) }) (v := undef) rfl (by kernel_rfl) (by kernel_rfl) (by kernel_rfl) (fun _ _ _ h => h) (Or.inr ⟨by rfl, rfl⟩) (by assumption) ?_
            try simp only [Act.put, List.setIfInBounds_toArray, List.set_cons_zero, List.set_cons_succ]
            refine wpAnyH_take (i := 10) (oi := { dst := some 30, op := Op.call { callee := Callee.value (Operand.func 33), args := #[Operand.tmp 28, Operand.tmp 29], argTypes := #[34, 34] }, type := 4, pos := "ref.go:49", after := #[{ on := 8, ground := Ground.data }, { on := 9, ground := Ground.data }, { on := 4, ground := Ground.chain }, { on := 4, ground := Ground.guard }], guard := some (4, true) }) (v := undef) rfl (by kernel_rfl) (by kernel_rfl) (by kernel_rfl) (fun _ _ _ h => h) (Or.inr ⟨by rfl, rfl⟩) (by assumption) ?_
            try simp only [Act.put, List.setIfInBounds_toArray, List.set_cons_zero, List.set_cons_succ]
            refine wpAnyH_take (i := 11) (oi := { dst := some 31, op := Op.pick (Operand.tmp 24) (Operand.tmp 30) (Operand.const (Value.bool false)), type := 4, pos := "ref.go:49", after := #[{ on := 4, ground := Ground.data }, { on := 10, ground := Ground.data }], guard := none }) (v := .bool false) rfl (by kernel_rfl) (by kernel_rfl) (by kernel_rfl) (fun _ _ _ h => h) (Or.inl ⟨by rfl, fun w hSw => by go_simp⟩) (by assumption) ?_
            try simp only [Act.put, List.setIfInBounds_toArray, List.set_cons_zero, List.set_cons_succ]
            refine wpAnyH_done (by kernel_rfl) ?_ _
            try unfold NoPanic
            have HK : Hid (_ ∧ _ ∧ _) := ⟨HK.out.1, hHeld.2, hHeld.1⟩
            clear hHeld
            go_upto_region 9 with (fail)
            refine wp_region_noPanic ?_
            refine wp_region_held_drew (S := fun W : World => Below wo.heap.size wo W ∧ W.heap[wo.heap.size]? = some (.cells #[.int .u32 (ca : Int), .int .u8 (cn : Int)] 34 (0, 0))) (by kernel_rfl) ⟨HK.out.2.2.drew, HK.out.2.1⟩ (fun hHeld => ?_)
            generalize wd.drew = we at *
            refine wpAnyH_take (i := 0) (oi := { dst := some 34, op := Op.move (Operand.tmp 6), type := 3, pos := "ref.go:52", after := #[], guard := none }) (v := .int .i64 (m : Int)) rfl (by kernel_rfl) (by kernel_rfl) (by kernel_rfl) (fun _ _ _ h => h) (Or.inl ⟨by rfl, fun w hSw => by go_simp⟩) (by assumption) ?_
            try simp only [Act.put, List.setIfInBounds_toArray, List.set_cons_zero, List.set_cons_succ]
            refine wpAnyH_take (i := 1) (oi := { dst := some 35, op := Op.move (Operand.tmp 3), type := 71, pos := "ref.go:52", after := #[], guard := none }) (v := .slice A3 m m) rfl (by kernel_rfl) (by kernel_rfl) (by kernel_rfl) (fun _ _ _ h => h) (Or.inl ⟨by rfl, fun w hSw => by go_simp⟩) (by assumption) ?_
            try simp only [Act.put, List.setIfInBounds_toArray, List.set_cons_zero, List.set_cons_succ]
            refine wpAnyH_take (i := 2) (oi := { dst := some 36, op := Op.call { callee := Callee.builtin Builtin.len, args := #[Operand.tmp 35], argTypes := #[71] }, type := 3, pos := "ref.go:52", after := #[{ on := 1, ground := Ground.data }], guard := none }) (v := .int .i64 (m : Int)) rfl (by kernel_rfl) (by kernel_rfl) (by kernel_rfl) (fun _ _ _ h => h) (Or.inl ⟨by rfl, fun w hSw => by go_simp⟩) (by assumption) ?_
            try simp only [Act.put, List.setIfInBounds_toArray, List.set_cons_zero, List.set_cons_succ]
            refine wpAnyH_take (i := 3) (oi := { dst := some 37, op := Op.binOp BinOp.lss 3 (Operand.tmp 34) (Operand.tmp 36) 3, type := 4, pos := "ref.go:52", after := #[{ on := 0, ground := Ground.data }, { on := 2, ground := Ground.data }], guard := none }) (v := .bool false) rfl (by kernel_rfl) (by kernel_rfl) (by kernel_rfl) (fun _ _ _ h => h) (Or.inl ⟨by rfl, fun w hSw => by go_simp⟩) (by assumption) ?_
            try simp only [Act.put, List.setIfInBounds_toArray, List.set_cons_zero, List.set_cons_succ]
            refine wpAnyH_take (i := 4) (oi := { dst := some 38, op := Op.move (Operand.tmp 37), type := 4, pos := "ref.go:52", after := #[{ on := 3, ground := Ground.data }], guard := none }) (v := .bool false) rfl (by kernel_rfl) (by kernel_rfl) (by kernel_rfl) (fun _ _ _ h => h) (Or.inl ⟨by rfl, fun w hSw => by go_simp⟩) (by assumption) ?_
            try simp only [Act.put, List.setIfInBounds_toArray, List.set_cons_zero, List.set_cons_succ]
            refine wpAnyH_take (i := 5) (oi := { dst := some 39, op := Op.move (Operand.tmp 3), type := 71, pos := "ref.go:52", after := #[{ on := 4, ground := Ground.guard }], guard := some (4, true) }) (v := undef) rfl (by kernel_rfl) (by kernel_rfl) (by kernel_rfl) (fun _ _ _ h => h) (Or.inr ⟨by rfl, rfl⟩) (by assumption) ?_
            try simp only [Act.put, List.setIfInBounds_toArray, List.set_cons_zero, List.set_cons_succ]
            refine wpAnyH_take (i := 6) (oi := { dst := some 40, op := Op.move (Operand.tmp 6), type := 3, pos := "ref.go:52", after := #[{ on := 4, ground := Ground.guard }], guard := some (4, true) }) (v := undef) rfl (by kernel_rfl) (by kernel_rfl) (by kernel_rfl) (fun _ _ _ h => h) (Or.inr ⟨by rfl, rfl⟩) (by assumption) ?_
            try simp only [Act.put, List.setIfInBounds_toArray, List.set_cons_zero, List.set_cons_succ]
            refine wpAnyH_take (i := 7) (oi := { dst := some 41, op := Op.indexAddr 71 (Operand.tmp 39) (Operand.tmp 40), type := 0, pos := "ref.go:52", after := #[{ on := 5, ground := Ground.data }, { on := 6, ground := Ground.data }, { on := 4, ground := Ground.guard }], guard := some (4, true) }) (v := undef) rfl (by kernel_rfl) (by kernel_rfl) (by kernel_rfl) (fun _ _ _ h => h) (Or.inr ⟨by rfl, rfl⟩) (by assumption) ?_
            try simp only [Act.put, List.setIfInBounds_toArray, List.set_cons_zero, List.set_cons_succ]
            refine wpAnyH_take (i := 8) (oi := { dst := some 42, op := Op.load 34 (Operand.tmp 41), type := 34, pos := "ref.go:52", after := #[{ on := 7, ground := Ground.data }, { on := 4, ground := Ground.guard }], guard := some (4, true) }) (v := undef) rfl (by kernel_rfl) (by kernel_rfl) (by kernel_rfl) (fun _ _ _ h => h) (Or.inr ⟨by rfl, rfl⟩) (by assumption) ?_
            try simp only [Act.put, List.setIfInBounds_toArray, List.set_cons_zero, List.set_cons_succ]
            refine wpAnyH_take (i := 9) (oi := { dst := some 43, op := Op.load 34 (Operand.tmp 5), type := 34, pos := "ref.go:52", after := #[{ on := 4, ground := Ground.guard }], guard := some (4, true) }) (v := undef) rfl (by kernel_rfl) (by kernel_rfl) (by kernel_rfl) (fun _ _ _ h => h) (Or.inr ⟨by rfl, rfl⟩) (by assumption) ?_
            try simp only [Act.put, List.setIfInBounds_toArray, List.set_cons_zero, List.set_cons_succ]
            refine wpAnyH_take (i := 10) (oi := { dst := some 44, op := Op.binOp BinOp.eql 34 (Operand.tmp 42) (Operand.tmp 43) 34, type := 4, pos := "ref.go:52", after := #[{ on := 8, ground := Ground.data }, { on := 9, ground := Ground.data }, { on := 4, ground := Ground.guard }], guard := some (4, true) }) (v := undef) rfl (by kernel_rfl) (by kernel_rfl) (by kernel_rfl) (fun _ _ _ h => h) (Or.inr ⟨by rfl, rfl⟩) (by assumption) ?_
            try simp only [Act.put, List.setIfInBounds_toArray, List.set_cons_zero, List.set_cons_succ]
            refine wpAnyH_take (i := 11) (oi := { dst := some 45, op := Op.pick (Operand.tmp 38) (Operand.tmp 44) (Operand.const (Value.bool false)), type := 4, pos := "ref.go:52", after := #[{ on := 4, ground := Ground.data }, { on := 10, ground := Ground.data }], guard := none }) (v := .bool false) rfl (by kernel_rfl) (by kernel_rfl) (by kernel_rfl) (fun _ _ _ h => h) (Or.inl ⟨by rfl, fun w hSw => by go_simp⟩) (by assumption) ?_
            try simp only [Act.put, List.setIfInBounds_toArray, List.set_cons_zero, List.set_cons_succ]
            refine wpAnyH_done (by kernel_rfl) ?_ _
            try unfold NoPanic
            have HE9 := Lib.hid hHeld
            clear hHeld
            go_wp2_with (first
              | (at_builtin; refine app_pf rfl (.tmp 46) (.tmp 49) rfl wo.heap.size (.slice none 0 0) [] (rs.take m) A3 m m rfl rfl (PfOwn.nil _ _) (by have := HX.out.2.1; rw [List.length_take]; omega) (fun e => by have h1 := HX.out.2.2.2.2.2.none e; have h2 := HX.out.2.1; rw [h1.2] at h2; exact ⟨h2, h1.1⟩) (fun ad e j u hj => ((HX.out.2.2.2.2.2.below HE9.out.1).src ad e).2 j u (by rw [← pf_take, List.getElem?_take] at hj; (split at hj <;> first | exact hj | cases hj))) (by have := HX.out.2.1; simp only [List.length_nil, List.length_take]; omega) HE9.out.1.size ?_; intro v1 w1 O1 G1; have P1 := (G1.block wo.heap.size (Array.getElem?_eq_some_iff.1 HE9.out.2).1 (by intro e; cases e)).trans HE9.out.2; have HZ1 := Lib.hid (And.intro O1 (HE9.out.1.grown G1 HE9.out.1.size (by intro k e; cases e))); obtain ⟨p0, p1⟩ := row2 P1; clear O1 G1 P1)
              | (at_builtin; refine app_pf rfl (.tmp 51) (.tmp 53) rfl wo.heap.size v1 ([] ++ rs.take m) [(R.first ⟨no, time, g, ca, cn, via, mt, sq⟩)] (some ⟨w1.heap.size, 0, none⟩) 1 1 rfl rfl (HZ1.out.1.kept ((Below.refl _ _).alloc (Nat.le_refl _) _)) rfl (fun e => by cases e) (fun ad e => by injection e with e; subst e; intro j u hj; rw [Addr.add_lit, Nat.zero_add, cell_of_row _ _ j _ 34 (0, 0) (heap_alloc_new w1 _), ← hj]; simp [R.pf, R.first]) (by have := HX.out.2.1; simp only [List.length_nil, List.length_append, List.length_take, List.length_cons]; omega) (by have := HZ1.out.2.size; simp; omega) ?_; intro v2 w2' O2 G2; have HZ2 := Lib.hid (And.intro O2 ((HZ1.out.2.alloc HZ1.out.2.size _).grown G2 (by have := HZ1.out.2.size; simp; omega) (fun k e => (HZ1.out.1.lt k e).1))); clear O2 G2 p0 p1)
              | (at_builtin; refine app_pf rfl (.tmp 55) (.tmp 58) rfl wo.heap.size v2 ([] ++ rs.take m ++ [(R.first ⟨no, time, g, ca, cn, via, mt, sq⟩)]) (rs.drop m) A3 0 0 rfl rfl HZ2.out.1 (by have := HX.out.2.1; rw [List.length_drop]; omega) (fun _ => ⟨rfl, rfl⟩) (fun ad e j u hj => by rw [List.drop_of_length_le (by have := HX.out.2.1; omega)] at hj; simp at hj) (by have := HX.out.2.1; simp only [List.length_nil, List.length_append, List.length_take, List.length_cons, List.length_drop]; omega) HZ2.out.2.size ?_; intro v3 w3' O3 G3; have HZ3 := Lib.hid (And.intro O3 (HZ2.out.2.grown G3 HZ2.out.2.size (fun k e => (HZ2.out.1.lt k e).1))); clear O3 G3))
            go_roundw
            case rel =>
              refine ⟨j + 1, by omega, by go_num, ⟨?_, HR.out.2.trans (HZ3.out.2.mono HR.out.2.size)⟩⟩
              have hu := upd_new (c := ⟨no, time, g, ca, cn, via, mt, sq⟩) (rs := rs) (there_no HTH.out)
              rw [key_mk, ← HP.out] at hu
              rw [HX.out.1, hu]
              have := HZ3.out.1.mono HR.out.2.size
              simpa using this
            case measure => simp [intOf]; omega
          · have hnc : m ≤ c3 := by have := HX.out.2.2.2.2.2.cap; have := HX.out.2.1; omega
            go_upto_region 7 with (fail)
            refine wp_region_noPanic ?_
            refine wp_region_held_drew (S := fun W : World => Below wo.heap.size wo W ∧ W.heap[wo.heap.size]? = some (.cells #[.int .u32 (ca : Int), .int .u8 (cn : Int)] 34 (0, 0))) (by kernel_rfl) ⟨HK.out.2.2.drew, HK.out.2.1⟩ (fun hHeld => ?_)
            generalize wr.drew = wd at *
            refine wpAnyH_take (i := 0) (oi := { dst := some 20, op := Op.move (Operand.tmp 6), type := 3, pos := "ref.go:49", after := #[], guard := none }) (v := .int .i64 (m : Int)) rfl (by kernel_rfl) (by kernel_rfl) (by kernel_rfl) (fun _ _ _ h => h) (Or.inl ⟨by rfl, fun w hSw => by go_simp⟩) (by assumption) ?_
            try simp only [Act.put, List.setIfInBounds_toArray, List.set_cons_zero, List.set_cons_succ]
            refine wpAnyH_take (i := 1) (oi := { dst := some 21, op := Op.move (Operand.tmp 3), type := 71, pos := "ref.go:49", after := #[], guard := none }) (v := .slice A3 m c3) rfl (by kernel_rfl) (by kernel_rfl) (by kernel_rfl) (fun _ _ _ h => h) (Or.inl ⟨by rfl, fun w hSw => by go_simp⟩) (by assumption) ?_
            try simp only [Act.put, List.setIfInBounds_toArray, List.set_cons_zero, List.set_cons_succ]
            refine wpAnyH_take (i := 2) (oi := { dst := some 22, op := Op.call { callee := Callee.builtin Builtin.len, args := #[Operand.tmp 21], argTypes := #[71] }, type := 3, pos := "ref.go:49", after := #[{ on := 1, ground := Ground.data }], guard := none }) (v := .int .i64 (m : Int)) rfl (by kernel_rfl) (by kernel_rfl) (by kernel_rfl) (fun _ _ _ h => h) (Or.inl ⟨by rfl, fun w hSw => by go_simp⟩) (by assumption) ?_
            try simp only [Act.put, List.setIfInBounds_toArray, List.set_cons_zero, List.set_cons_succ]
            refine wpAnyH_take (i := 3) (oi := { dst := some 23, op := Op.binOp BinOp.lss 3 (Operand.tmp 20) (Operand.tmp 22) 3, type := 4, pos := "ref.go:49", after := #[{ on := 0, ground := Ground.data }, { on := 2, ground := Ground.data }], guard := none }) (v := .bool false) rfl (by kernel_rfl) (by kernel_rfl) (by kernel_rfl) (fun _ _ _ h => h) (Or.inl ⟨by rfl, fun w hSw => by go_simp⟩) (by assumption) ?_
            try simp only [Act.put, List.setIfInBounds_toArray, List.set_cons_zero, List.set_cons_succ]
            refine wpAnyH_take (i := 4) (oi := { dst := some 24, op := Op.move (Operand.tmp 23), type := 4, pos := "ref.go:49", after := #[{ on := 3, ground := Ground.data }], guard := none }) (v := .bool false) rfl (by kernel_rfl) (by kernel_rfl) (by kernel_rfl) (fun _ _ _ h => h) (Or.inl ⟨by rfl, fun w hSw => by go_simp⟩) (by assumption) ?_
            try simp only [Act.put, List.setIfInBounds_toArray, List.set_cons_zero, List.set_cons_succ]
            refine wpAnyH_take (i := 5) (oi := { dst := some 25, op := Op.move (Operand.tmp 3), type := 71, pos := "ref.go:49", after := #[{ on := 4, ground := Ground.guard }], guard := some (4, true) }) (v := undef) rfl (by kernel_rfl) (by kernel_rfl) (by kernel_rfl) (fun _ _ _ h => h) (Or.inr ⟨by rfl, rfl⟩) (by assumption) ?_
            try simp only [Act.put, List.setIfInBounds_toArray, List.set_cons_zero, List.set_cons_succ]
            refine wpAnyH_take (i := 6) (oi := { dst := some 26, op := Op.move (Operand.tmp 6), type := 3, pos := "ref.go:49", after := #[{ on := 4, ground := Ground.guard }], guard := some (4, true) }) (v := undef) rfl (by kernel_rfl) (by kernel_rfl) (by kernel_rfl) (fun _ _ _ h => h) (Or.inr ⟨by rfl, rfl⟩) (by assumption) ?_
            try simp only [Act.put, List.setIfInBounds_toArray, List.set_cons_zero, List.set_cons_succ]
            refine wpAnyH_take (i := 7) (oi := { dst := some 27, op := Op.indexAddr 71 (Operand.tmp 25) (Operand.tmp 26), type := 0, pos := "ref.go:49", after := #[{ on := 5, ground := Ground.data }, { on := 6, ground := Ground.data }, { on := 4, ground := Ground.guard }], guard := some (4, true) }) (v := undef) rfl (by kernel_rfl) (by kernel_rfl) (by kernel_rfl) (fun _ _ _ h => h) (Or.inr ⟨by rfl, rfl⟩) (by assumption) ?_
            try simp only [Act.put, List.setIfInBounds_toArray, List.set_cons_zero, List.set_cons_succ]
            refine wpAnyH_take (i := 8) (oi := { dst := some 28, op := Op.load 34 (Operand.tmp 27), type := 34, pos := "ref.go:49", after := #[{ on := 7, ground := Ground.data }, { on := 4, ground := Ground.guard }], guard := some (4, true) }) (v := undef) rfl (by kernel_rfl) (by kernel_rfl) (by kernel_rfl) (fun _ _ _ h => h) (Or.inr ⟨by rfl, rfl⟩) (by assumption) ?_
            try simp only [Act.put, List.setIfInBounds_toArray, List.set_cons_zero, List.set_cons_succ]
            refine wpAnyH_take (i := 9) (oi := { dst := some 29, op := Op.load 34 (Operand.tmp 5), type := 34, pos := "ref.go:49", after := #[{ on := 4, ground := Ground.guard }], guard := some (4, true) }) (v := undef) rfl (by kernel_rfl) (by kernel_rfl) (by kernel_rfl) (fun _ _ _ h => h) (Or.inr ⟨by rfl, rfl⟩) (by assumption) ?_
            try simp only [Act.put, List.setIfInBounds_toArray, List.set_cons_zero, List.set_cons_succ]
            refine wpAnyH_take (i := 10) (oi := { dst := some 30, op := Op.call { callee := Callee.value (Operand.func 33), args := #[Operand.tmp 28, Operand.tmp 29], argTypes := #[34, 34] }, type := 4, pos := "ref.go:49", after := #[{ on := 8, ground := Ground.data }, { on := 9, ground := Ground.data }, { on := 4, ground := Ground.chain }, { on := 4, ground := Ground.guard }], guard := some (4, true) }) (v := undef) rfl (by kernel_rfl) (by kernel_rfl) (by kernel_rfl) (fun _ _ _ h => h) (Or.inr ⟨by rfl, rfl⟩) (by assumption) ?_
            try simp only [Act.put, List.setIfInBounds_toArray, List.set_cons_zero, List.set_cons_succ]
            refine wpAnyH_take (i := 11) (oi := { dst := some 31, op := Op.pick (Operand.tmp 24) (Operand.tmp 30) (Operand.const (Value.bool false)), type := 4, pos := "ref.go:49", after := #[{ on := 4, ground := Ground.data }, { on := 10, ground := Ground.data }], guard := none }) (v := .bool false) rfl (by kernel_rfl) (by kernel_rfl) (by kernel_rfl) (fun _ _ _ h => h) (Or.inl ⟨by rfl, fun w hSw => by go_simp⟩) (by assumption) ?_
            try simp only [Act.put, List.setIfInBounds_toArray, List.set_cons_zero, List.set_cons_succ]
            refine wpAnyH_done (by kernel_rfl) ?_ _
            try unfold NoPanic
            have HK : Hid (_ ∧ _ ∧ _) := ⟨HK.out.1, hHeld.2, hHeld.1⟩
            clear hHeld
            go_upto_region 9 with (fail)
            refine wp_region_noPanic ?_
            refine wp_region_held_drew (S := fun W : World => Below wo.heap.size wo W ∧ W.heap[wo.heap.size]? = some (.cells #[.int .u32 (ca : Int), .int .u8 (cn : Int)] 34 (0, 0))) (by kernel_rfl) ⟨HK.out.2.2.drew, HK.out.2.1⟩ (fun hHeld => ?_)
            generalize wd.drew = we at *
            refine wpAnyH_take (i := 0) (oi := { dst := some 34, op := Op.move (Operand.tmp 6), type := 3, pos := "ref.go:52", after := #[], guard := none }) (v := .int .i64 (m : Int)) rfl (by kernel_rfl) (by kernel_rfl) (by kernel_rfl) (fun _ _ _ h => h) (Or.inl ⟨by rfl, fun w hSw => by go_simp⟩) (by assumption) ?_
            try simp only [Act.put, List.setIfInBounds_toArray, List.set_cons_zero, List.set_cons_succ]
            refine wpAnyH_take (i := 1) (oi := { dst := some 35, op := Op.move (Operand.tmp 3), type := 71, pos := "ref.go:52", after := #[], guard := none }) (v := .slice A3 m c3) rfl (by kernel_rfl) (by kernel_rfl) (by kernel_rfl) (fun _ _ _ h => h) (Or.inl ⟨by rfl, fun w hSw => by go_simp⟩) (by assumption) ?_
            try simp only [Act.put, List.setIfInBounds_toArray, List.set_cons_zero, List.set_cons_succ]
            refine wpAnyH_take (i := 2) (oi := { dst := some 36, op := Op.call { callee := Callee.builtin Builtin.len, args := #[Operand.tmp 35], argTypes := #[71] }, type := 3, pos := "ref.go:52", after := #[{ on := 1, ground := Ground.data }], guard := none }) (v := .int .i64 (m : Int)) rfl (by kernel_rfl) (by kernel_rfl) (by kernel_rfl) (fun _ _ _ h => h) (Or.inl ⟨by rfl, fun w hSw => by go_simp⟩) (by assumption) ?_
            try simp only [Act.put, List.setIfInBounds_toArray, List.set_cons_zero, List.set_cons_succ]
            refine wpAnyH_take (i := 3) (oi := { dst := some 37, op := Op.binOp BinOp.lss 3 (Operand.tmp 34) (Operand.tmp 36) 3, type := 4, pos := "ref.go:52", after := #[{ on := 0, ground := Ground.data }, { on := 2, ground := Ground.data }], guard := none }) (v := .bool false) rfl (by kernel_rfl) (by kernel_rfl) (by kernel_rfl) (fun _ _ _ h => h) (Or.inl ⟨by rfl, fun w hSw => by go_simp⟩) (by assumption) ?_
            try simp only [Act.put, List.setIfInBounds_toArray, List.set_cons_zero, List.set_cons_succ]
            refine wpAnyH_take (i := 4) (oi := { dst := some 38, op := Op.move (Operand.tmp 37), type := 4, pos := "ref.go:52", after := #[{ on := 3, ground := Ground.data }], guard := none }) (v := .bool false) rfl (by kernel_rfl) (by kernel_rfl) (by kernel_rfl) (fun _ _ _ h => h) (Or.inl ⟨by rfl, fun w hSw => by go_simp⟩) (by assumption) ?_
            try simp only [Act.put, List.setIfInBounds_toArray, List.set_cons_zero, List.set_cons_succ]
            refine wpAnyH_take (i := 5) (oi := { dst := some 39, op := Op.move (Operand.tmp 3), type := 71, pos := "ref.go:52", after := #[{ on := 4, ground := Ground.guard }], guard := some (4, true) }) (v := undef) rfl (by kernel_rfl) (by kernel_rfl) (by kernel_rfl) (fun _ _ _ h => h) (Or.inr ⟨by rfl, rfl⟩) (by assumption) ?_
            try simp only [Act.put, List.setIfInBounds_toArray, List.set_cons_zero, List.set_cons_succ]
            refine wpAnyH_take (i := 6) (oi := { dst := some 40, op := Op.move (Operand.tmp 6), type := 3, pos := "ref.go:52", after := #[{ on := 4, ground := Ground.guard }], guard := some (4, true) }) (v := undef) rfl (by kernel_rfl) (by kernel_rfl) (by kernel_rfl) (fun _ _ _ h => h) (Or.inr ⟨by rfl, rfl⟩) (by assumption) ?_
            try simp only [Act.put, List.setIfInBounds_toArray, List.set_cons_zero, List.set_cons_succ]
            refine wpAnyH_take (i := 7) (oi := { dst := some 41, op := Op.indexAddr 71 (Operand.tmp 39) (Operand.tmp 40), type := 0, pos := "ref.go:52", after := #[{ on := 5, ground := Ground.data }, { on := 6, ground := Ground.data }, { on := 4, ground := Ground.guard }], guard := some (4, true) }) (v := undef) rfl (by kernel_rfl) (by kernel_rfl) (by kernel_rfl) (fun _ _ _ h => h) (Or.inr ⟨by rfl, rfl⟩) (by assumption) ?_
            try simp only [Act.put, List.setIfInBounds_toArray, List.set_cons_zero, List.set_cons_succ]
            refine wpAnyH_take (i := 8) (oi := { dst := some 42, op := Op.load 34 (Operand.tmp 41), type := 34, pos := "ref.go:52", after := #[{ on := 7, ground := Ground.data }, { on := 4, ground := Ground.guard }], guard := some (4, true) }) (v := undef) rfl (by kernel_rfl) (by kernel_rfl) (by kernel_rfl) (fun _ _ _ h => h) (Or.inr ⟨by rfl, rfl⟩) (by assumption) ?_
            try simp only [Act.put, List.setIfInBounds_toArray, List.set_cons_zero, List.set_cons_succ]
            refine wpAnyH_take (i := 9) (oi := { dst := some 43, op := Op.load 34 (Operand.tmp 5), type := 34, pos := "ref.go:52", after := #[{ on := 4, ground := Ground.guard }], guard := some (4, true) }) (v := undef) rfl (by kernel_rfl) (by kernel_rfl) (by kernel_rfl) (fun _ _ _ h => h) (Or.inr ⟨by rfl, rfl⟩) (by assumption) ?_
            try simp only [Act.put, List.setIfInBounds_toArray, List.set_cons_zero, List.set_cons_succ]
            refine wpAnyH_take (i := 10) (oi := { dst := some 44, op := Op.binOp BinOp.eql 34 (Operand.tmp 42) (Operand.tmp 43) 34, type := 4, pos := "ref.go:52", after := #[{ on := 8, ground := Ground.data }, { on := 9, ground := Ground.data }, { on := 4, ground := Ground.guard }], guard := some (4, true) }) (v := undef) rfl (by kernel_rfl) (by kernel_rfl) (by kernel_rfl) (fun _ _ _ h => h) (Or.inr ⟨by rfl, rfl⟩) (by assumption) ?_
            try simp only [Act.put, List.setIfInBounds_toArray, List.set_cons_zero, List.set_cons_succ]
            refine wpAnyH_take (i := 11) (oi := { dst := some 45, op := Op.pick (Operand.tmp 38) (Operand.tmp 44) (Operand.const (Value.bool false)), type := 4, pos := "ref.go:52", after := #[{ on := 4, ground := Ground.data }, { on := 10, ground := Ground.data }], guard := none }) (v := .bool false) rfl (by kernel_rfl) (by kernel_rfl) (by kernel_rfl) (fun _ _ _ h => h) (Or.inl ⟨by rfl, fun w hSw => by go_simp⟩) (by assumption) ?_
            try simp only [Act.put, List.setIfInBounds_toArray, List.set_cons_zero, List.set_cons_succ]
            refine wpAnyH_done (by kernel_rfl) ?_ _
            try unfold NoPanic
            have HE9 := Lib.hid hHeld
            clear hHeld
            go_wp2_with (first
              | (at_builtin; refine app_pf rfl (.tmp 46) (.tmp 49) rfl wo.heap.size (.slice none 0 0) [] (rs.take m) A3 m c3 rfl rfl (PfOwn.nil _ _) (by have := HX.out.2.1; rw [List.length_take]; omega) (fun e => by have h1 := HX.out.2.2.2.2.2.none e; have h2 := HX.out.2.1; rw [h1.2] at h2; exact ⟨h2, h1.1⟩) (fun ad e j u hj => ((HX.out.2.2.2.2.2.below HE9.out.1).src ad e).2 j u (by rw [← pf_take, List.getElem?_take] at hj; (split at hj <;> first | exact hj | cases hj))) (by have := HX.out.2.1; simp only [List.length_nil, List.length_take]; omega) HE9.out.1.size ?_; intro v1 w1 O1 G1; have P1 := (G1.block wo.heap.size (Array.getElem?_eq_some_iff.1 HE9.out.2).1 (by intro e; cases e)).trans HE9.out.2; have HZ1 := Lib.hid (And.intro O1 (HE9.out.1.grown G1 HE9.out.1.size (by intro k e; cases e))); obtain ⟨p0, p1⟩ := row2 P1; clear O1 G1 P1)
              | (at_builtin; refine app_pf rfl (.tmp 51) (.tmp 53) rfl wo.heap.size v1 ([] ++ rs.take m) [(R.first ⟨no, time, g, ca, cn, via, mt, sq⟩)] (some ⟨w1.heap.size, 0, none⟩) 1 1 rfl rfl (HZ1.out.1.kept ((Below.refl _ _).alloc (Nat.le_refl _) _)) rfl (fun e => by cases e) (fun ad e => by injection e with e; subst e; intro j u hj; rw [Addr.add_lit, Nat.zero_add, cell_of_row _ _ j _ 34 (0, 0) (heap_alloc_new w1 _), ← hj]; simp [R.pf, R.first]) (by have := HX.out.2.1; simp only [List.length_nil, List.length_append, List.length_take, List.length_cons]; omega) (by have := HZ1.out.2.size; simp; omega) ?_; intro v2 w2' O2 G2; have HZ2 := Lib.hid (And.intro O2 ((HZ1.out.2.alloc HZ1.out.2.size _).grown G2 (by have := HZ1.out.2.size; simp; omega) (fun k e => (HZ1.out.1.lt k e).1))); clear O2 G2 p0 p1)
              | (at_builtin; refine app_pf rfl (.tmp 55) (.tmp 58) rfl wo.heap.size v2 ([] ++ rs.take m ++ [(R.first ⟨no, time, g, ca, cn, via, mt, sq⟩)]) (rs.drop m) (Option.map (fun x => x.add (m * 2)) A3) 0 (c3 - m) rfl rfl HZ2.out.1 (by have := HX.out.2.1; rw [List.length_drop]; omega) (fun e => by cases hA : A3 with | none => exact ⟨rfl, by have := (HX.out.2.2.2.2.2.none hA).1; omega⟩ | some x => rw [hA] at e; cases e) (fun ad e j u hj => by rw [List.drop_of_length_le (by have := HX.out.2.1; omega)] at hj; simp at hj) (by have := HX.out.2.1; simp only [List.length_nil, List.length_append, List.length_take, List.length_cons, List.length_drop]; omega) HZ2.out.2.size ?_; intro v3 w3' O3 G3; have HZ3 := Lib.hid (And.intro O3 (HZ2.out.2.grown G3 HZ2.out.2.size (fun k e => (HZ2.out.1.lt k e).1))); clear O3 G3))
            go_roundw
            case rel =>
              refine ⟨j + 1, by omega, by go_num, ⟨?_, HR.out.2.trans (HZ3.out.2.mono HR.out.2.size)⟩⟩
              have hu := upd_new (c := ⟨no, time, g, ca, cn, via, mt, sq⟩) (rs := rs) (there_no HTH.out)
              rw [key_mk, ← HP.out] at hu
              rw [HX.out.1, hu]
              have := HZ3.out.1.mono HR.out.2.size
              simpa using this
            case measure => simp [intOf]; omega
    · obtain rfl : j = n := by omega
      go_wp2
      go_ret
      refine ⟨_, rfl, ?_, HR.out.2⟩
      have := HR.out.1
      rwa [List.take_of_length_le (by rw [HN.out]; exact Nat.le_refl _)] at this
end Go.Proofs.Ytldaggcopbnehaa.Tab
