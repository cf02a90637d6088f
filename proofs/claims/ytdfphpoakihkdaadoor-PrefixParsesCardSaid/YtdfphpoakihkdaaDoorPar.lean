/- Parse's contract: what it reads is right and has just that text; else ErrForm and nothing. -/
import Derived.Test.YtdfphpoakihkdaaDoorRd
namespace Go.Proofs.YtdfphpoakihkdaaDoor.Pre
open Go.ChangeShapes Go.WideShapes Go.ChangeAt Go.RowKit Go.Sort

def Bytes (st : St) : Prop := Byte st.1 ∧ Byte st.2.1 ∧ Byte st.2.2.1 ∧ Byte st.2.2.2.1 ∧ Byte st.2.2.2.2.1
theorem putN_bytes (st : St) (v : Int) (h : Bytes st) (hv : Byte v) : Bytes (putN st v) := by
  obtain ⟨a, b, c, d, e, n⟩ := st
  obtain ⟨h1, h2, h3, h4, h5⟩ := h
  match n with
  | 0 => exact ⟨hv, h2, h3, h4, h5⟩
  | 1 => exact ⟨h1, hv, h3, h4, h5⟩
  | 2 => exact ⟨h1, h2, hv, h4, h5⟩
  | 3 => exact ⟨h1, h2, h3, hv, h5⟩
  | n + 4 => exact ⟨h1, h2, h3, h4, hv⟩
theorem stepR_bytes (st st' : St) (r : Int) (h : Bytes st) (hs : stepR st r = some st') : Bytes st' := by
  unfold stepR at hs
  split at hs
  · cases hs; exact putN_bytes _ _ h (dg_byte _ _)
  · split at hs
    · cases hs; exact h
    · cases hs
theorem runs_bytes (s : ByteArray) : ∀ (f pos : Nat) (st st' : St), Bytes st → runs s f pos st = some st' → Bytes st'
  | 0, _, st, st', h, e => by simp [runs] at e; subst e; exact h
  | f + 1, pos, st, st', h, e => by
    by_cases hp : pos < s.size
    · cases hs : stepR st ((Utf8.decode s pos).1 : Int) with
      | none => rw [runs_none s f pos st hp hs] at e; cases e
      | some st1 => rw [runs_some s f pos st st1 hp hs] at e; exact runs_bytes s f _ st1 st' (stepR_bytes st st1 _ h hs) e
    · rw [runs_end s _ pos st hp] at e; cases e; exact h

theorem ne_toList {t s : ByteArray} (h : ¬ t = s) : (t.toList == s.toList) = false := by
  rw [beq_eq_false_iff_ne, ne_eq, ByteArray.toList_eq, ByteArray.toList_eq]
  intro e
  apply h
  obtain ⟨⟨a⟩⟩ := t
  obtain ⟨⟨b⟩⟩ := s
  simp only at e
  rw [e]

/-- read takes s for this prefix. -/
def reads (s : ByteArray) (P N : Nat) : Prop := outN (runs s s.size 0 st0) = .tuple #[.agg #[.int .u32 P, .int .u8 N], .bool true]
theorem read_cases (s : ByteArray) : (∃ P N : Nat, P < 4294967296 ∧ N ≤ 255 ∧ reads s P N) ∨ (∃ P N : Nat, P < 4294967296 ∧ N ≤ 255 ∧ outN (runs s s.size 0 st0) = .tuple #[.agg #[.int .u32 P, .int .u8 N], .bool false]) := by
  cases h : runs s s.size 0 st0 with
  | none => exact .inr ⟨0, 0, by omega, by omega, rfl⟩
  | some st =>
    have hb := runs_bytes s _ _ _ _ (show Bytes st0 by refine ⟨?_, ?_, ?_, ?_, ?_⟩ <;> (show (0 : Int) ≤ 0 ∧ (0 : Int) ≤ 255; omega)) h
    obtain ⟨a, b, c, d, e, n⟩ := st
    obtain ⟨h1, h2, h3, h4, h5⟩ := hb
    unfold Byte at h1 h2 h3 h4 h5
    simp only at h1 h2 h3 h4 h5
    have e1 : addrOf a b c d = (((addrOf a b c d).toNat : Nat) : Int) := by unfold addrOf; omega
    have e2 : e = ((e.toNat : Nat) : Int) := by omega
    have l1 : (addrOf a b c d).toNat < 4294967296 := by unfold addrOf; omega
    have e3 : outN (some (a, b, c, d, e, n)) = .tuple #[.agg #[.int .u32 ((addrOf a b c d).toNat : Nat), .int .u8 (e.toNat : Nat)], .bool (n == 4)] := by
      show Value.tuple #[.agg #[.int .u32 (addrOf a b c d), .int .u8 e], .bool (n == 4)] = _
      rw [← e1, ← e2]
    cases hn : (n == 4)
    · exact .inr ⟨(addrOf a b c d).toNat, e.toNat, l1, by omega, by rw [e3, hn]⟩
    · exact .inl ⟨(addrOf a b c d).toNat, e.toNat, l1, by omega, by unfold reads; rw [h, e3, hn]⟩

theorem lt_of_below {W w1 : World} {B b : Nat} (hb : Below B W w1) (h : b < W.heap.size) : b < w1.heap.size := Nat.lt_of_lt_of_le h hb.size

theorem parse_yes (s : ByteArray) (P N : Nat) (hs : s.size ≤ maxLen) (hP : P < 4294967296) (hN : N ≤ 255) (hr : reads s P N) (hright : right P N = true) (ht : s = ⟨(text P N).toArray⟩) (w : World) (hp : Pow w) :
    Calls Tryd.prog 24 #[.string s] w fun e w' => e = .returned (.tuple #[.agg #[.int .u32 P, .int .u8 N], .int .i64 0]) ∧ Below w.heap.size w w' := by
  have hrd := fun w => read_any s hs w
  unfold reads at hr
  rw [hr] at hrd
  have hRg := fun w => right_any P N hP hN w
  rw [hright] at hRg
  have hTx := fun w (h : Pow w) => text_any P N (by omega) (by omega) w h
  rw [← ht] at hTx
  have HP := Lib.hid hp
  clear hr hright ht hp
  go_enter Tryd.func24, Tryd.ntmps24
  go_wp2_with fail
  refine (hrd _).mono ?_
  rintro e w1 ⟨rfl, hb1⟩
  obtain ⟨hc1, hf1⟩ := bcell hb1
  have z1 : w.heap.size < w1.heap.size := lt_of_below hb1 (by simp)
  have B1 : Below w.heap.size w w1 := bstep ((Below.refl _ _).alloc (Nat.le_refl _) _) hb1
  go_wp2_with fail
  refine (hRg _).mono ?_
  rintro e w2 ⟨rfl, hb2⟩
  obtain ⟨hc2, hf2⟩ := bcell hb2
  have z2 : w.heap.size < w2.heap.size := lt_of_below hb2 (by simp; omega)
  have z3 : w1.heap.size < w2.heap.size := lt_of_below hb2 (by simp)
  have B2 : Below w.heap.size w w2 := bstep (B1.alloc (by omega) _) hb2
  go_wp2_with fail
  refine (hTx _ (pow_below HP.out B2 (pow_size HP.out))).mono ?_
  rintro e w3 ⟨rfl, hb3⟩
  obtain ⟨hc3, hf3⟩ := bcell hb3
  have z4 : w.heap.size < w3.heap.size := lt_of_below hb3 z2
  have z5 : w1.heap.size < w3.heap.size := lt_of_below hb3 z3
  have B3 : Below w.heap.size w w3 := bstep B2 hb3
  have c0 : w3.cell? ⟨w.heap.size, 0, none⟩ = some (.int .u32 0) := by rw [hc3 _ _ z2, hc2 _ _ (by simp; omega), World.cell?_alloc_past _ _ _ z1, hc1 _ _ (by simp)]; simp [go_sem]
  have c1 : w3.cell? ⟨w.heap.size, 1, none⟩ = some (.int .u8 0) := by rw [hc3 _ _ z2, hc2 _ _ (by simp; omega), World.cell?_alloc_past _ _ _ z1, hc1 _ _ (by simp)]; simp [go_sem]
  go_wp2
  exact bodyPost_ret (v := .tuple #[.agg #[.int .u32 P, .int .u8 N], .int .i64 0]) (by simp [results, Tryd.results24, go_sem, c0, c1]) rfl ⟨rfl, (B3.setCell (by simp) _).setCell (by simp) _⟩

theorem parse_no1 (s : ByteArray) (P N : Nat) (hs : s.size ≤ maxLen) (_hP : P < 4294967296) (_hN : N ≤ 255) (hr : outN (runs s s.size 0 st0) = .tuple #[.agg #[.int .u32 P, .int .u8 N], .bool false]) (w : World) (hp : Pow w) :
    Calls Tryd.prog 24 #[.string s] w fun e w' => e = .returned (.tuple #[.agg #[.int .u32 0, .int .u8 0], .int .i64 4]) ∧ Below w.heap.size w w' := by
  have hrd := fun w => read_any s hs w
  rw [hr] at hrd
  have HP := Lib.hid hp
  clear hr hp
  go_enter Tryd.func24, Tryd.ntmps24
  go_wp2_with fail
  refine (hrd _).mono ?_
  rintro e w1 ⟨rfl, hb1⟩
  obtain ⟨hc1, hf1⟩ := bcell hb1
  have z1 : w.heap.size < w1.heap.size := lt_of_below hb1 (by simp)
  have B1 : Below w.heap.size w w1 := bstep ((Below.refl _ _).alloc (Nat.le_refl _) _) hb1
  have c0 : w1.cell? ⟨w.heap.size, 0, none⟩ = some (.int .u32 0) := by rw [hc1 _ _ (by simp)]; simp [go_sem]
  have c1 : w1.cell? ⟨w.heap.size, 1, none⟩ = some (.int .u8 0) := by rw [hc1 _ _ (by simp)]; simp [go_sem]
  go_wp2
  exact bodyPost_ret (v := .tuple #[.agg #[.int .u32 0, .int .u8 0], .int .i64 4]) (by simp [results, Tryd.results24, go_sem, c0, c1, z1]) rfl ⟨rfl, ((B1.setCell (by simp) _).setCell (by simp) _).alloc (by simp; omega) _⟩

theorem parse_no2 (s : ByteArray) (P N : Nat) (hs : s.size ≤ maxLen) (hP : P < 4294967296) (hN : N ≤ 255) (hr : outN (runs s s.size 0 st0) = .tuple #[.agg #[.int .u32 P, .int .u8 N], .bool true]) (hright : right P N = false) (w : World) (hp : Pow w) :
    Calls Tryd.prog 24 #[.string s] w fun e w' => e = .returned (.tuple #[.agg #[.int .u32 0, .int .u8 0], .int .i64 4]) ∧ Below w.heap.size w w' := by
  have hrd := fun w => read_any s hs w
  rw [hr] at hrd
  have hRg := fun w => right_any P N hP hN w
  rw [hright] at hRg
  clear hright
  have HP := Lib.hid hp
  clear hr hp
  go_enter Tryd.func24, Tryd.ntmps24
  go_wp2_with fail
  refine (hrd _).mono ?_
  rintro e w1 ⟨rfl, hb1⟩
  obtain ⟨hc1, hf1⟩ := bcell hb1
  have z1 : w.heap.size < w1.heap.size := lt_of_below hb1 (by simp)
  have B1 : Below w.heap.size w w1 := bstep ((Below.refl _ _).alloc (Nat.le_refl _) _) hb1
  go_wp2_with fail
  refine (hRg _).mono ?_
  rintro e w2 ⟨rfl, hb2⟩
  obtain ⟨hc2, hf2⟩ := bcell hb2
  have z2 : w.heap.size < w2.heap.size := lt_of_below hb2 (by simp; omega)
  have z3 : w1.heap.size < w2.heap.size := lt_of_below hb2 (by simp)
  have B2 : Below w.heap.size w w2 := bstep (B1.alloc (by omega) _) hb2
  have c0 : w2.cell? ⟨w.heap.size, 0, none⟩ = some (.int .u32 0) := by rw [hc2 _ _ (by simp; omega), World.cell?_alloc_past _ _ _ z1, hc1 _ _ (by simp)]; simp [go_sem]
  have c1 : w2.cell? ⟨w.heap.size, 1, none⟩ = some (.int .u8 0) := by rw [hc2 _ _ (by simp; omega), World.cell?_alloc_past _ _ _ z1, hc1 _ _ (by simp)]; simp [go_sem]
  go_wp2
  exact bodyPost_ret (v := .tuple #[.agg #[.int .u32 0, .int .u8 0], .int .i64 4]) (by simp [results, Tryd.results24, go_sem, c0, c1]) rfl ⟨rfl, (B2.setCell (by simp) _).setCell (by simp) _⟩

theorem parse_no3 (s : ByteArray) (P N : Nat) (hs : s.size ≤ maxLen) (hP : P < 4294967296) (hN : N ≤ 255) (hr : outN (runs s s.size 0 st0) = .tuple #[.agg #[.int .u32 P, .int .u8 N], .bool true]) (hright : right P N = true) (ht : ¬ (⟨(text P N).toArray⟩ : ByteArray) = s) (w : World) (hp : Pow w) :
    Calls Tryd.prog 24 #[.string s] w fun e w' => e = .returned (.tuple #[.agg #[.int .u32 0, .int .u8 0], .int .i64 4]) ∧ Below w.heap.size w w' := by
  have hrd := fun w => read_any s hs w
  rw [hr] at hrd
  have hRg := fun w => right_any P N hP hN w
  rw [hright] at hRg
  clear hright
  have hTx := fun w (h : Pow w) => text_any P N (by omega) (by omega) w h
  generalize (⟨(text P N).toArray⟩ : ByteArray) = t at *
  have hb := ne_toList ht
  have HP := Lib.hid hp
  clear hr hp
  go_enter Tryd.func24, Tryd.ntmps24
  go_wp2_with fail
  refine (hrd _).mono ?_
  rintro e w1 ⟨rfl, hb1⟩
  obtain ⟨hc1, hf1⟩ := bcell hb1
  have z1 : w.heap.size < w1.heap.size := lt_of_below hb1 (by simp)
  have B1 : Below w.heap.size w w1 := bstep ((Below.refl _ _).alloc (Nat.le_refl _) _) hb1
  go_wp2_with fail
  refine (hRg _).mono ?_
  rintro e w2 ⟨rfl, hb2⟩
  obtain ⟨hc2, hf2⟩ := bcell hb2
  have z2 : w.heap.size < w2.heap.size := lt_of_below hb2 (by simp; omega)
  have z3 : w1.heap.size < w2.heap.size := lt_of_below hb2 (by simp)
  have B2 : Below w.heap.size w w2 := bstep (B1.alloc (by omega) _) hb2
  go_wp2_with fail
  refine (hTx _ (pow_below HP.out B2 (pow_size HP.out))).mono ?_
  rintro e w3 ⟨rfl, hb3⟩
  obtain ⟨hc3, hf3⟩ := bcell hb3
  have z4 : w.heap.size < w3.heap.size := lt_of_below hb3 z2
  have z5 : w1.heap.size < w3.heap.size := lt_of_below hb3 z3
  have B3 : Below w.heap.size w w3 := bstep B2 hb3
  have c0 : w3.cell? ⟨w.heap.size, 0, none⟩ = some (.int .u32 0) := by rw [hc3 _ _ z2, hc2 _ _ (by simp; omega), World.cell?_alloc_past _ _ _ z1, hc1 _ _ (by simp)]; simp [go_sem]
  have c1 : w3.cell? ⟨w.heap.size, 1, none⟩ = some (.int .u8 0) := by rw [hc3 _ _ z2, hc2 _ _ (by simp; omega), World.cell?_alloc_past _ _ _ z1, hc1 _ _ (by simp)]; simp [go_sem]
  go_wp2
  exact bodyPost_ret (v := .tuple #[.agg #[.int .u32 0, .int .u8 0], .int .i64 4]) (by simp [results, Tryd.results24, go_sem, c0, c1]) rfl ⟨rfl, (B3.setCell (by simp) _).setCell (by simp) _⟩

/-- What Parse answers. -/
def Parsed (s : ByteArray) (w : World) (e : Ending) (w' : World) : Prop :=
  Below w.heap.size w w' ∧ ((∃ P N : Nat, P < 4294967296 ∧ N ≤ 255 ∧ right P N = true ∧ s = ⟨(text P N).toArray⟩ ∧ e = .returned (.tuple #[.agg #[.int .u32 P, .int .u8 N], .int .i64 0])) ∨
    e = .returned (.tuple #[.agg #[.int .u32 0, .int .u8 0], .int .i64 4]))
theorem parse_any (s : ByteArray) (hs : s.size ≤ maxLen) (w : World) (hp : Pow w) : Calls Tryd.prog 24 #[.string s] w (Parsed s w) := by
  rcases read_cases s with ⟨P, N, hP, hN, hr⟩ | ⟨P, N, hP, hN, hr⟩
  · cases hright : right P N
    · exact (parse_no2 s P N hs hP hN hr hright w hp).mono fun e w' ⟨he, hb⟩ => ⟨hb, .inr he⟩
    · by_cases ht : (⟨(text P N).toArray⟩ : ByteArray) = s
      · exact (parse_yes s P N hs hP hN hr hright ht.symm w hp).mono fun e w' ⟨he, hb⟩ => ⟨hb, .inl ⟨P, N, hP, hN, hright, ht.symm, he⟩⟩
      · exact (parse_no3 s P N hs hP hN hr hright ht w hp).mono fun e w' ⟨he, hb⟩ => ⟨hb, .inr he⟩
  · exact (parse_no1 s P N hs hP hN hr w hp).mono fun e w' ⟨he, hb⟩ => ⟨hb, .inr he⟩
end Go.Proofs.YtdfphpoakihkdaaDoor.Pre
