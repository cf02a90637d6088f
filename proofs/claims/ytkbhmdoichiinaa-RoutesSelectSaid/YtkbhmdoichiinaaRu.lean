/- each: what is told of each prefix. -/
import Derived.Test.YtkbhmdoichiinaaRt
namespace Go.Proofs.Ytkbhmdoichiinaa.Rts
open Pre Ser
open Go.Proofs.Ytkbhmdoichiinaa.Src (row1 row2)
open Go.ChangeShapes Go.WideShapes Go.ChangeAt Go.RowKit
set_option maxRecDepth 8000
set_option linter.unusedVariables false

def samep (x y : E) : Prop := x.a = y.a ∧ x.n = y.n
/-- From i up to j stands all that is told of a prefix. -/
structure Grp (L : List E) (i j : Nat) : Prop where
  lt : i < j
  le : j ≤ L.length
  all : ∀ k (hk : k < L.length), i ≤ k → k < j → samep L[k] (L[i]'(Nat.lt_of_lt_of_le lt le))
  fst : i = 0 ∨ ∃ h : i - 1 < L.length, ¬ samep L[i - 1] (L[i]'(Nat.lt_of_lt_of_le lt le))
  lst : j = L.length ∨ ∃ h : j < L.length, ¬ samep L[j] (L[i]'(Nat.lt_of_lt_of_le lt le))
/-- What stands between two rounds. -/
structure Ech (L : List E) (i k : Nat) : Prop where
  le : i ≤ k
  ln : k ≤ L.length
  all : ∀ (hk : k < L.length) k' (hk' : k' < L.length), i ≤ k' → k' ≤ k → samep L[k'] L[k]
  fst : i = 0 ∨ ∀ (hi : i < L.length) (h : i - 1 < L.length), ¬ samep L[i - 1] L[i]
  fin : k = L.length → i = L.length
theorem samep.symm {x y : E} (h : samep x y) : samep y x := ⟨h.1.symm, h.2.symm⟩
theorem samep.trans {x y z : E} (h : samep x y) (h' : samep y z) : samep x z := ⟨h.1.trans h'.1, h.2.trans h'.2⟩
theorem Ech.start (L : List E) : Ech L 0 0 := ⟨Nat.le_refl _, Nat.zero_le _, fun hk k' hk' h1 h2 => by
  obtain rfl : k' = 0 := by omega
  exact ⟨rfl, rfl⟩, Or.inl rfl, fun h => h⟩
theorem Ech.grp {L : List E} {i k : Nat} (h : Ech L i k) (hk : k < L.length) (he : k + 1 = L.length ∨ ∃ h : k + 1 < L.length, ¬ samep L[k + 1] L[k]) : Grp L i (k + 1) ∧ Ech L (k + 1) (k + 1) := by
  have hle := h.le
  have hil : i < L.length := by omega
  have hik := h.all hk i hil (Nat.le_refl _) h.le
  refine ⟨⟨by omega, hk, fun k' hk' h1 h2 => (h.all hk k' hk' h1 (by omega)).trans hik.symm, ?_, ?_⟩, ⟨Nat.le_refl _, hk, fun hk2 k' hk' h1 h2 => ?_, Or.inr fun hi h2 => ?_, fun h => h⟩⟩
  · rcases h.fst with h0 | h0
    · exact Or.inl h0
    · by_cases h1 : i = 0
      · exact Or.inl h1
      · exact Or.inr ⟨by omega, h0 hil (by omega)⟩
  · rcases he with he | ⟨h1, h2⟩
    · exact Or.inl he
    · exact Or.inr ⟨h1, fun e => h2 (e.trans hik)⟩
  · obtain rfl : k' = k + 1 := by omega
    exact ⟨rfl, rfl⟩
  · rcases he with he | ⟨h1, h3⟩
    · omega
    · exact fun e => h3 e.symm
theorem Ech.go {L : List E} {i k : Nat} (h : Ech L i k) (hk : k + 1 < L.length) (he : samep L[k + 1] L[k]) : Ech L i (k + 1) :=
  ⟨by have := h.le; omega, by omega, fun hk2 k' hk' h1 h2 => by
    rcases Nat.lt_or_eq_of_le h2 with h3 | h3
    · exact (h.all (by omega) k' hk' h1 (by omega)).trans he.symm
    · subst h3; exact ⟨rfl, rfl⟩, h.fst, fun e => by omega⟩
set_option maxHeartbeats 4000000 in
theorem each_any (w : World) (lo q : Nat) (v : Value) (L : List E) (hlen : L.length ≤ 1000) (g : Nat) (lb : Array Value) (eg : ∀ args w, (callFunc g args).run Try.prog w = .ok (.enter g args) w) (I : Nat → World → Prop) (h0 : I 0 w)
    (hb : ∀ k W W', I k W → Below W.heap.size W W' → I k W') (hr : ∀ k W, I k W → RtsAt lo W q L v)
    (hc : ∀ i j W gb cp, v = .slice (some ⟨gb, 0, none⟩) L.length cp → I i W → Grp L i j → Calls Try.prog g (#[.slice (some ⟨gb, i * 7, none⟩) (j - i) (cp - i)] ++ lb) W fun en w' => en = .returned (.tuple #[]) ∧ I j w') :
    Calls Try.prog 33 #[.pointer (some ⟨q, 0, none⟩), .func (.func g) #[] lb] w fun en w' => en = .returned (.tuple #[]) ∧ I L.length w' := by
  obtain ⟨A, c, hv, -, -⟩ := (hr 0 w h0).own.form
  obtain ⟨q0, -⟩ := row1 (hr 0 w h0).row
  have hql := (hr 0 w h0).lt
  rw [hv] at q0
  obtain ⟨n, hn⟩ : ∃ n, n = L.length := ⟨_, rfl⟩
  rw [← hn] at q0 hlen
  have HH := Lib.hid (And.intro hn (And.intro hb (And.intro hr (And.intro hc hv))))
  have H0 := Lib.hid h0
  clear hn hb hr hc hv h0
  go_enter Try.func33, Try.ntmps33
  go_wp2
  clear q0 hql
  go_loopw [4, 15] (fun f i wr => ∃ i0 : Nat, f = .int .i64 i0 ∧ ∃ k : Nat, k ≤ n ∧ i = .int .i64 k ∧ Hid (I i0 wr ∧ Ech L i0 k)) (fun _ i _ => n - (intOf i).toNat)
  case atStart => exact ⟨0, rfl, 0, Nat.zero_le _, rfl, H0.out, Ech.start L⟩
  case round =>
    obtain ⟨i0, rfl, k, hk, rfl, HI⟩ := hrel
    clear H0
    by_cases hlt : k < n
    · have hkl : k < L.length := by rw [← HH.out.1]; exact hlt
      have hR := HH.out.2.2.1 _ _ HI.out.1
      obtain ⟨gb, cp, cur, hv, -, hg, hcp, hcm, -, -, hEs⟩ := hR.own.rows (by omega)
      have hAc : A = some ⟨gb, 0, none⟩ ∧ c = cp := by
        have := HH.out.2.2.2.2
        rw [hv] at this
        injection this with e1 _ e3
        exact ⟨e1.symm, e3.symm⟩
      obtain ⟨rfl, rfl⟩ := hAc
      have HRW := Lib.hid hR
      have HV := Lib.hid hv
      have hgbl := (Array.getElem?_eq_some_iff.1 hg).1
      rw [← HH.out.1] at hcp
      have hE := hEs k hkl
      have HES := Lib.hid hEs
      obtain ⟨e, he⟩ : ∃ e, e = L[k] := ⟨_, rfl⟩
      rw [← he] at hE
      have HE := Lib.hid he
      obtain ⟨k0, k1', k2, k3, k4, k5, k6⟩ := hE
      have hile := HI.out.2.le
      obtain ⟨k1, hk1⟩ : ∃ k1, k1 = k + 1 := ⟨_, rfl⟩
      have hwk : IntKind.i64.wrap ((k : Int) + 1) = (k1 : Int) := by rw [IntKind.wrap_i64]; omega
      have HK1 := Lib.hid hk1
      clear hR hv hEs he hg hk1
      go_upto_region 6 with (fail)
      clear k0 k1' k2 k3 k4 k5 k6
      have hbx := heap_alloc_new wr (.cells #[.int .u32 (e.a : Int), .int .u8 (e.n : Int), .int .i64 (e.b : Int), .int .i64 (e.d : Int), .int .u16 (e.s : Int), .int .u16 (e.m : Int), .int .u64 (e.u : Int)] 43)
      have hB0 := (Below.refl wr.heap.size wr).alloc (Nat.le_refl _) (.cells #[.int .u32 (e.a : Int), .int .u8 (e.n : Int), .int .i64 (e.b : Int), .int .i64 (e.d : Int), .int .u16 (e.s : Int), .int .u16 (e.m : Int), .int .u64 (e.u : Int)] 43)
      have HBX := Lib.hid hbx
      have HI1 := Lib.hid (HH.out.2.1 _ _ _ HI.out.1 hB0)
      replace HRW := Lib.hid (HRW.out.kept hB0)
      have hEv : ∀ k' (hk' : k' < L.length), EAt (wr.alloc (.cells #[.int .u32 (e.a : Int), .int .u8 (e.n : Int), .int .i64 (e.b : Int), .int .i64 (e.d : Int), .int .u16 (e.s : Int), .int .u16 (e.m : Int), .int .u64 (e.u : Int)] 43)) gb (k' * 7) L[k'] := fun k' hk' => (HES.out k' hk').keep (hB0.block gb hgbl)
      have HEV := Lib.hid hEv
      have hgbl2 := Nat.lt_of_lt_of_le hgbl hB0.size
      clear hbx hB0 HES hEv hgbl
      generalize wr.alloc _ = wb at *
      generalize wr.heap.size = zb at *
      generalize wb = wr at *
      have HGB := Lib.hid hgbl2
      have hr' := HH.out.2.2.1
      have HR' := Lib.hid hr'
      clear hr'
      have hv' := HH.out.2.2.2.2
      rw [hv'] at HRW
      have HVn := Lib.hid (show v = .slice (some ⟨gb, 0, none⟩) L.length c from hv')
      rw [← HH.out.1] at HRW
      clear hv' hgbl2
      by_cases hl : k + 1 = n
      · have hend : k1 = n := by have := HK1.out; omega
        have HG := Lib.hid (HI.out.2.grp hkl (Or.inl (by rw [← HH.out.1]; exact hl)))
        have hee : ((k1 : Int) == (n : Int)) = true := by simp; omega
        have hk1n : k1 ≤ n := by omega
        clear hend
        refine wp_region_noPanic ?_
        refine wp_region_held_drew (S := fun y : World => Below wr.heap.size wr y) (by kernel_rfl) ((Below.refl _ _).drew) (fun hHeld => ?_)
        generalize wr.drew = wd at *
        refine wpAnyH_take (i := 0) (oi := { dst := some 22, op := Op.move (Operand.tmp 7), type := 3, pos := "routes.go:131", after := #[], guard := none }) (v := .int .i64 (k1 : Int)) rfl (by kernel_rfl) (by kernel_rfl) (by kernel_rfl) (fun _ _ _ h => h) (Or.inl ⟨by rfl, fun w hSw => by go_simp⟩) (by assumption) ?_
        try simp only [Act.put, List.setIfInBounds_toArray, List.set_cons_zero, List.set_cons_succ]
        refine wpAnyH_take (i := 1) (oi := { dst := some 23, op := Op.move (Operand.tmp 0), type := 24, pos := "routes.go:131", after := #[], guard := none }) (v := .pointer (some ⟨q, 0, none⟩)) rfl (by kernel_rfl) (by kernel_rfl) (by kernel_rfl) (fun _ _ _ h => h) (Or.inl ⟨by rfl, fun w hSw => by go_simp⟩) (by assumption) ?_
        try simp only [Act.put, List.setIfInBounds_toArray, List.set_cons_zero, List.set_cons_succ]
        refine wpAnyH_take (i := 2) (oi := { dst := some 24, op := Op.nilCheck (Operand.tmp 23), type := 0, pos := "routes.go:131", after := #[{ on := 1, ground := Ground.data }], guard := none }) (v := .pointer (some ⟨q, 0, none⟩)) rfl (by kernel_rfl) (by kernel_rfl) (by kernel_rfl) (fun _ _ _ h => h) (Or.inl ⟨by rfl, fun w hSw => by go_simp⟩) (by assumption) ?_
        try simp only [Act.put, List.setIfInBounds_toArray, List.set_cons_zero, List.set_cons_succ]
        refine wpAnyH_take (i := 3) (oi := { dst := some 25, op := Op.fieldAddr 72 (Operand.tmp 24) 0, type := 0, pos := "routes.go:131", after := #[{ on := 2, ground := Ground.data }], guard := none }) (v := .pointer (some ⟨q, 0, none⟩)) rfl (by kernel_rfl) (by kernel_rfl) (by kernel_rfl) (fun _ _ _ h => h) (Or.inl ⟨by rfl, fun w hSw => by go_simp⟩) (by assumption) ?_
        try simp only [Act.put, List.setIfInBounds_toArray, List.set_cons_zero, List.set_cons_succ]
        refine wpAnyH_take (i := 4) (oi := { dst := some 26, op := Op.load 26 (Operand.tmp 25), type := 26, pos := "routes.go:131", after := #[{ on := 3, ground := Ground.data }], guard := none }) (v := .slice (some ⟨gb, 0, none⟩) n c) rfl (by kernel_rfl) (by kernel_rfl) (by kernel_rfl) (fun _ _ _ h => h) (Or.inl ⟨by rfl, fun w hSw => by obtain ⟨p0, -⟩ := row1 (brow hSw HRW.out.row); go_simp⟩) (by assumption) ?_
        try simp only [Act.put, List.setIfInBounds_toArray, List.set_cons_zero, List.set_cons_succ]
        refine wpAnyH_take (i := 5) (oi := { dst := some 27, op := Op.call { callee := Callee.builtin Builtin.len, args := #[Operand.tmp 26], argTypes := #[26] }, type := 3, pos := "routes.go:131", after := #[{ on := 4, ground := Ground.data }], guard := none }) (v := .int .i64 (n : Nat)) rfl (by kernel_rfl) (by kernel_rfl) (by kernel_rfl) (fun _ _ _ h => h) (Or.inl ⟨by rfl, fun w hSw => by go_simp⟩) (by assumption) ?_
        try simp only [Act.put, List.setIfInBounds_toArray, List.set_cons_zero, List.set_cons_succ]
        refine wpAnyH_take (i := 6) (oi := { dst := some 28, op := Op.binOp BinOp.eql 3 (Operand.tmp 22) (Operand.tmp 27) 3, type := 4, pos := "routes.go:131", after := #[{ on := 0, ground := Ground.data }, { on := 5, ground := Ground.data }], guard := none }) (v := .bool true) rfl (by kernel_rfl) (by kernel_rfl) (by kernel_rfl) (fun _ _ _ h => h) (Or.inl ⟨by rfl, fun w hSw => by go_simp⟩) (by assumption) ?_
        try simp only [Act.put, List.setIfInBounds_toArray, List.set_cons_zero, List.set_cons_succ]
        refine wpAnyH_take (i := 7) (oi := { dst := some 29, op := Op.move (Operand.tmp 28), type := 4, pos := "routes.go:131", after := #[{ on := 6, ground := Ground.data }], guard := none }) (v := .bool true) rfl (by kernel_rfl) (by kernel_rfl) (by kernel_rfl) (fun _ _ _ h => h) (Or.inl ⟨by rfl, fun w hSw => by go_simp⟩) (by assumption) ?_
        try simp only [Act.put, List.setIfInBounds_toArray, List.set_cons_zero, List.set_cons_succ]
        refine wpAnyH_take (i := 8) (oi := { dst := some 30, op := Op.move (Operand.tmp 0), type := 24, pos := "routes.go:131", after := #[{ on := 7, ground := Ground.guard }], guard := some (7, false) }) (v := undef) rfl (by kernel_rfl) (by kernel_rfl) (by kernel_rfl) (fun _ _ _ h => h) (Or.inr ⟨by rfl, rfl⟩) (by assumption) ?_
        try simp only [Act.put, List.setIfInBounds_toArray, List.set_cons_zero, List.set_cons_succ]
        refine wpAnyH_take (i := 9) (oi := { dst := some 31, op := Op.nilCheck (Operand.tmp 30), type := 0, pos := "routes.go:131", after := #[{ on := 8, ground := Ground.data }, { on := 7, ground := Ground.guard }], guard := some (7, false) }) (v := undef) rfl (by kernel_rfl) (by kernel_rfl) (by kernel_rfl) (fun _ _ _ h => h) (Or.inr ⟨by rfl, rfl⟩) (by assumption) ?_
        try simp only [Act.put, List.setIfInBounds_toArray, List.set_cons_zero, List.set_cons_succ]
        refine wpAnyH_take (i := 10) (oi := { dst := some 32, op := Op.fieldAddr 72 (Operand.tmp 31) 0, type := 0, pos := "routes.go:131", after := #[{ on := 9, ground := Ground.data }, { on := 7, ground := Ground.guard }], guard := some (7, false) }) (v := undef) rfl (by kernel_rfl) (by kernel_rfl) (by kernel_rfl) (fun _ _ _ h => h) (Or.inr ⟨by rfl, rfl⟩) (by assumption) ?_
        try simp only [Act.put, List.setIfInBounds_toArray, List.set_cons_zero, List.set_cons_succ]
        refine wpAnyH_take (i := 11) (oi := { dst := some 33, op := Op.load 26 (Operand.tmp 32), type := 26, pos := "routes.go:131", after := #[{ on := 10, ground := Ground.data }, { on := 7, ground := Ground.guard }], guard := some (7, false) }) (v := undef) rfl (by kernel_rfl) (by kernel_rfl) (by kernel_rfl) (fun _ _ _ h => h) (Or.inr ⟨by rfl, rfl⟩) (by assumption) ?_
        try simp only [Act.put, List.setIfInBounds_toArray, List.set_cons_zero, List.set_cons_succ]
        refine wpAnyH_take (i := 12) (oi := { dst := some 34, op := Op.move (Operand.tmp 7), type := 3, pos := "routes.go:131", after := #[{ on := 7, ground := Ground.guard }], guard := some (7, false) }) (v := undef) rfl (by kernel_rfl) (by kernel_rfl) (by kernel_rfl) (fun _ _ _ h => h) (Or.inr ⟨by rfl, rfl⟩) (by assumption) ?_
        try simp only [Act.put, List.setIfInBounds_toArray, List.set_cons_zero, List.set_cons_succ]
        refine wpAnyH_take (i := 13) (oi := { dst := some 35, op := Op.indexAddr 26 (Operand.tmp 33) (Operand.tmp 34), type := 0, pos := "routes.go:131", after := #[{ on := 11, ground := Ground.data }, { on := 12, ground := Ground.data }, { on := 7, ground := Ground.guard }], guard := some (7, false) }) (v := undef) rfl (by kernel_rfl) (by kernel_rfl) (by kernel_rfl) (fun _ _ _ h => h) (Or.inr ⟨by rfl, rfl⟩) (by assumption) ?_
        try simp only [Act.put, List.setIfInBounds_toArray, List.set_cons_zero, List.set_cons_succ]
        refine wpAnyH_take (i := 14) (oi := { dst := some 36, op := Op.fieldAddr 43 (Operand.tmp 35) 0, type := 0, pos := "routes.go:131", after := #[{ on := 13, ground := Ground.data }, { on := 7, ground := Ground.guard }], guard := some (7, false) }) (v := undef) rfl (by kernel_rfl) (by kernel_rfl) (by kernel_rfl) (fun _ _ _ h => h) (Or.inr ⟨by rfl, rfl⟩) (by assumption) ?_
        try simp only [Act.put, List.setIfInBounds_toArray, List.set_cons_zero, List.set_cons_succ]
        refine wpAnyH_take (i := 15) (oi := { dst := some 37, op := Op.load 39 (Operand.tmp 36), type := 39, pos := "routes.go:131", after := #[{ on := 14, ground := Ground.data }, { on := 7, ground := Ground.guard }], guard := some (7, false) }) (v := undef) rfl (by kernel_rfl) (by kernel_rfl) (by kernel_rfl) (fun _ _ _ h => h) (Or.inr ⟨by rfl, rfl⟩) (by assumption) ?_
        try simp only [Act.put, List.setIfInBounds_toArray, List.set_cons_zero, List.set_cons_succ]
        refine wpAnyH_take (i := 16) (oi := { dst := some 38, op := Op.fieldAddr 43 (Operand.tmp 6) 0, type := 0, pos := "routes.go:131", after := #[{ on := 7, ground := Ground.guard }], guard := some (7, false) }) (v := undef) rfl (by kernel_rfl) (by kernel_rfl) (by kernel_rfl) (fun _ _ _ h => h) (Or.inr ⟨by rfl, rfl⟩) (by assumption) ?_
        try simp only [Act.put, List.setIfInBounds_toArray, List.set_cons_zero, List.set_cons_succ]
        refine wpAnyH_take (i := 17) (oi := { dst := some 39, op := Op.load 39 (Operand.tmp 38), type := 39, pos := "routes.go:131", after := #[{ on := 16, ground := Ground.data }, { on := 7, ground := Ground.guard }], guard := some (7, false) }) (v := undef) rfl (by kernel_rfl) (by kernel_rfl) (by kernel_rfl) (fun _ _ _ h => h) (Or.inr ⟨by rfl, rfl⟩) (by assumption) ?_
        try simp only [Act.put, List.setIfInBounds_toArray, List.set_cons_zero, List.set_cons_succ]
        refine wpAnyH_take (i := 18) (oi := { dst := some 40, op := Op.binOp BinOp.neq 39 (Operand.tmp 37) (Operand.tmp 39) 39, type := 4, pos := "routes.go:131", after := #[{ on := 15, ground := Ground.data }, { on := 17, ground := Ground.data }, { on := 7, ground := Ground.guard }], guard := some (7, false) }) (v := undef) rfl (by kernel_rfl) (by kernel_rfl) (by kernel_rfl) (fun _ _ _ h => h) (Or.inr ⟨by rfl, rfl⟩) (by assumption) ?_
        try simp only [Act.put, List.setIfInBounds_toArray, List.set_cons_zero, List.set_cons_succ]
        refine wpAnyH_take (i := 19) (oi := { dst := some 41, op := Op.pick (Operand.tmp 29) (Operand.const (Value.bool true)) (Operand.tmp 40), type := 4, pos := "routes.go:131", after := #[{ on := 7, ground := Ground.data }, { on := 18, ground := Ground.data }], guard := none }) (v := .bool true) rfl (by kernel_rfl) (by kernel_rfl) (by kernel_rfl) (fun _ _ _ h => h) (Or.inl ⟨by rfl, fun w hSw => by go_simp⟩) (by assumption) ?_
        try simp only [Act.put, List.setIfInBounds_toArray, List.set_cons_zero, List.set_cons_succ]
        refine wpAnyH_done (by kernel_rfl) ?_ _
        try unfold NoPanic
        have HI2 := Lib.hid (HH.out.2.1 _ _ _ HI1.out hHeld)
        have HR2 := Lib.hid (HRW.out.kept hHeld)
        clear hHeld
        obtain ⟨q0, -⟩ := row1 HR2.out.row
        have hql2 := HR2.out.lt
        have hcall := HH.out.2.2.2.1 i0 (k + 1) wd gb c HVn.out HI2.out HG.out.1
        rw [← HK1.out] at hcall
        have hci : i0 ≤ k1 := by have := HK1.out; omega
        have hcc : k1 ≤ c := by have := HK1.out; omega
        go_wp2_with (go_at_fn g; refine hcall.mono ?_; rintro en w' ⟨rfl, hI'⟩; have HI3 := Lib.hid hI'; clear hI')
        go_roundw
        case rel => exact ⟨k1, rfl, k1, by omega, rfl, HI3.out, HK1.out ▸ HG.out.2⟩
        case measure => have := HK1.out; simp [intOf]; omega
      · have hk1l : k + 1 < L.length := by have := HH.out.1; omega
        have hee : ((k1 : Int) == (n : Int)) = false := by have := HK1.out; simp; omega
        have hk1n : (k1 : Int) < (n : Int) := by have := HK1.out; omega
        obtain ⟨e1, he1⟩ : ∃ e1, e1 = L[k + 1] := ⟨_, rfl⟩
        have HE1 : Hid (EAt wr gb (k1 * 7) e1) := Lib.hid (by rw [HK1.out, he1]; exact HEV.out _ hk1l)
        have HGG := Lib.hid (fun (h : ¬ samep e1 e) => HI.out.2.grp hkl (Or.inr ⟨hk1l, by rw [← he1, ← HE.out]; exact h⟩))
        have HGO := Lib.hid (fun (h : samep e1 e) => HI.out.2.go hk1l (by rw [← he1, ← HE.out]; exact h))
        clear he1
        by_cases ha : e1.a = e.a
        · by_cases hm : e1.n = e.n
          · have HG2 := Lib.hid (HGO.out ⟨ha, hm⟩)
            have HBX2 : Hid (wr.heap[zb]? = some (.cells #[.int .u32 (e1.a : Int), .int .u8 (e1.n : Int), .int .i64 (e.b : Int), .int .i64 (e.d : Int), .int .u16 (e.s : Int), .int .u16 (e.m : Int), .int .u64 (e.u : Int)] 43 (0, 0))) := Lib.hid (by rw [ha, hm]; exact HBX.out)
            clear HGG HGO ha hm HBX
            have HBX := HBX2
            clear HBX2
            refine wp_region_noPanic ?_
            refine wp_region_held_drew (S := fun y : World => Below wr.heap.size wr y) (by kernel_rfl) ((Below.refl _ _).drew) (fun hHeld => ?_)
            generalize wr.drew = wd at *
            refine wpAnyH_take (i := 0) (oi := { dst := some 22, op := Op.move (Operand.tmp 7), type := 3, pos := "routes.go:131", after := #[], guard := none }) (v := .int .i64 (k1 : Int)) rfl (by kernel_rfl) (by kernel_rfl) (by kernel_rfl) (fun _ _ _ h => h) (Or.inl ⟨by rfl, fun w hSw => by go_simp⟩) (by assumption) ?_
            try simp only [Act.put, List.setIfInBounds_toArray, List.set_cons_zero, List.set_cons_succ]
            refine wpAnyH_take (i := 1) (oi := { dst := some 23, op := Op.move (Operand.tmp 0), type := 24, pos := "routes.go:131", after := #[], guard := none }) (v := .pointer (some ⟨q, 0, none⟩)) rfl (by kernel_rfl) (by kernel_rfl) (by kernel_rfl) (fun _ _ _ h => h) (Or.inl ⟨by rfl, fun w hSw => by go_simp⟩) (by assumption) ?_
            try simp only [Act.put, List.setIfInBounds_toArray, List.set_cons_zero, List.set_cons_succ]
            refine wpAnyH_take (i := 2) (oi := { dst := some 24, op := Op.nilCheck (Operand.tmp 23), type := 0, pos := "routes.go:131", after := #[{ on := 1, ground := Ground.data }], guard := none }) (v := .pointer (some ⟨q, 0, none⟩)) rfl (by kernel_rfl) (by kernel_rfl) (by kernel_rfl) (fun _ _ _ h => h) (Or.inl ⟨by rfl, fun w hSw => by go_simp⟩) (by assumption) ?_
            try simp only [Act.put, List.setIfInBounds_toArray, List.set_cons_zero, List.set_cons_succ]
            refine wpAnyH_take (i := 3) (oi := { dst := some 25, op := Op.fieldAddr 72 (Operand.tmp 24) 0, type := 0, pos := "routes.go:131", after := #[{ on := 2, ground := Ground.data }], guard := none }) (v := .pointer (some ⟨q, 0, none⟩)) rfl (by kernel_rfl) (by kernel_rfl) (by kernel_rfl) (fun _ _ _ h => h) (Or.inl ⟨by rfl, fun w hSw => by go_simp⟩) (by assumption) ?_
            try simp only [Act.put, List.setIfInBounds_toArray, List.set_cons_zero, List.set_cons_succ]
            refine wpAnyH_take (i := 4) (oi := { dst := some 26, op := Op.load 26 (Operand.tmp 25), type := 26, pos := "routes.go:131", after := #[{ on := 3, ground := Ground.data }], guard := none }) (v := .slice (some ⟨gb, 0, none⟩) n c) rfl (by kernel_rfl) (by kernel_rfl) (by kernel_rfl) (fun _ _ _ h => h) (Or.inl ⟨by rfl, fun w hSw => by obtain ⟨p0, -⟩ := row1 (brow hSw HRW.out.row); go_simp⟩) (by assumption) ?_
            try simp only [Act.put, List.setIfInBounds_toArray, List.set_cons_zero, List.set_cons_succ]
            refine wpAnyH_take (i := 5) (oi := { dst := some 27, op := Op.call { callee := Callee.builtin Builtin.len, args := #[Operand.tmp 26], argTypes := #[26] }, type := 3, pos := "routes.go:131", after := #[{ on := 4, ground := Ground.data }], guard := none }) (v := .int .i64 (n : Nat)) rfl (by kernel_rfl) (by kernel_rfl) (by kernel_rfl) (fun _ _ _ h => h) (Or.inl ⟨by rfl, fun w hSw => by go_simp⟩) (by assumption) ?_
            try simp only [Act.put, List.setIfInBounds_toArray, List.set_cons_zero, List.set_cons_succ]
            refine wpAnyH_take (i := 6) (oi := { dst := some 28, op := Op.binOp BinOp.eql 3 (Operand.tmp 22) (Operand.tmp 27) 3, type := 4, pos := "routes.go:131", after := #[{ on := 0, ground := Ground.data }, { on := 5, ground := Ground.data }], guard := none }) (v := .bool false) rfl (by kernel_rfl) (by kernel_rfl) (by kernel_rfl) (fun _ _ _ h => h) (Or.inl ⟨by rfl, fun w hSw => by go_simp⟩) (by assumption) ?_
            try simp only [Act.put, List.setIfInBounds_toArray, List.set_cons_zero, List.set_cons_succ]
            refine wpAnyH_take (i := 7) (oi := { dst := some 29, op := Op.move (Operand.tmp 28), type := 4, pos := "routes.go:131", after := #[{ on := 6, ground := Ground.data }], guard := none }) (v := .bool false) rfl (by kernel_rfl) (by kernel_rfl) (by kernel_rfl) (fun _ _ _ h => h) (Or.inl ⟨by rfl, fun w hSw => by go_simp⟩) (by assumption) ?_
            try simp only [Act.put, List.setIfInBounds_toArray, List.set_cons_zero, List.set_cons_succ]
            refine wpAnyH_take (i := 8) (oi := { dst := some 30, op := Op.move (Operand.tmp 0), type := 24, pos := "routes.go:131", after := #[{ on := 7, ground := Ground.guard }], guard := some (7, false) }) (v := .pointer (some ⟨q, 0, none⟩)) rfl (by kernel_rfl) (by kernel_rfl) (by kernel_rfl) (fun _ _ _ h => h) (Or.inl ⟨by rfl, fun w hSw => by go_simp⟩) (by assumption) ?_
            try simp only [Act.put, List.setIfInBounds_toArray, List.set_cons_zero, List.set_cons_succ]
            refine wpAnyH_take (i := 9) (oi := { dst := some 31, op := Op.nilCheck (Operand.tmp 30), type := 0, pos := "routes.go:131", after := #[{ on := 8, ground := Ground.data }, { on := 7, ground := Ground.guard }], guard := some (7, false) }) (v := .pointer (some ⟨q, 0, none⟩)) rfl (by kernel_rfl) (by kernel_rfl) (by kernel_rfl) (fun _ _ _ h => h) (Or.inl ⟨by rfl, fun w hSw => by go_simp⟩) (by assumption) ?_
            try simp only [Act.put, List.setIfInBounds_toArray, List.set_cons_zero, List.set_cons_succ]
            refine wpAnyH_take (i := 10) (oi := { dst := some 32, op := Op.fieldAddr 72 (Operand.tmp 31) 0, type := 0, pos := "routes.go:131", after := #[{ on := 9, ground := Ground.data }, { on := 7, ground := Ground.guard }], guard := some (7, false) }) (v := .pointer (some ⟨q, 0, none⟩)) rfl (by kernel_rfl) (by kernel_rfl) (by kernel_rfl) (fun _ _ _ h => h) (Or.inl ⟨by rfl, fun w hSw => by go_simp⟩) (by assumption) ?_
            try simp only [Act.put, List.setIfInBounds_toArray, List.set_cons_zero, List.set_cons_succ]
            refine wpAnyH_take (i := 11) (oi := { dst := some 33, op := Op.load 26 (Operand.tmp 32), type := 26, pos := "routes.go:131", after := #[{ on := 10, ground := Ground.data }, { on := 7, ground := Ground.guard }], guard := some (7, false) }) (v := .slice (some ⟨gb, 0, none⟩) n c) rfl (by kernel_rfl) (by kernel_rfl) (by kernel_rfl) (fun _ _ _ h => h) (Or.inl ⟨by rfl, fun w hSw => by obtain ⟨p0, -⟩ := row1 (brow hSw HRW.out.row); go_simp⟩) (by assumption) ?_
            try simp only [Act.put, List.setIfInBounds_toArray, List.set_cons_zero, List.set_cons_succ]
            refine wpAnyH_take (i := 12) (oi := { dst := some 34, op := Op.move (Operand.tmp 7), type := 3, pos := "routes.go:131", after := #[{ on := 7, ground := Ground.guard }], guard := some (7, false) }) (v := .int .i64 (k1 : Int)) rfl (by kernel_rfl) (by kernel_rfl) (by kernel_rfl) (fun _ _ _ h => h) (Or.inl ⟨by rfl, fun w hSw => by go_simp⟩) (by assumption) ?_
            try simp only [Act.put, List.setIfInBounds_toArray, List.set_cons_zero, List.set_cons_succ]
            refine wpAnyH_take (i := 13) (oi := { dst := some 35, op := Op.indexAddr 26 (Operand.tmp 33) (Operand.tmp 34), type := 0, pos := "routes.go:131", after := #[{ on := 11, ground := Ground.data }, { on := 12, ground := Ground.data }, { on := 7, ground := Ground.guard }], guard := some (7, false) }) (v := .pointer (some ⟨gb, k1 * 7, none⟩)) rfl (by kernel_rfl) (by kernel_rfl) (by kernel_rfl) (fun _ _ _ h => h) (Or.inl ⟨by rfl, fun w hSw => by go_simp⟩) (by assumption) ?_
            try simp only [Act.put, List.setIfInBounds_toArray, List.set_cons_zero, List.set_cons_succ]
            refine wpAnyH_take (i := 14) (oi := { dst := some 36, op := Op.fieldAddr 43 (Operand.tmp 35) 0, type := 0, pos := "routes.go:131", after := #[{ on := 13, ground := Ground.data }, { on := 7, ground := Ground.guard }], guard := some (7, false) }) (v := .pointer (some ⟨gb, k1 * 7, none⟩)) rfl (by kernel_rfl) (by kernel_rfl) (by kernel_rfl) (fun _ _ _ h => h) (Or.inl ⟨by rfl, fun w hSw => by go_simp⟩) (by assumption) ?_
            try simp only [Act.put, List.setIfInBounds_toArray, List.set_cons_zero, List.set_cons_succ]
            refine wpAnyH_take (i := 15) (oi := { dst := some 37, op := Op.load 39 (Operand.tmp 36), type := 39, pos := "routes.go:131", after := #[{ on := 14, ground := Ground.data }, { on := 7, ground := Ground.guard }], guard := some (7, false) }) (v := .agg #[.int .u32 (e1.a : Int), .int .u8 (e1.n : Int)]) rfl (by kernel_rfl) (by kernel_rfl) (by kernel_rfl) (fun _ _ _ h => h) (Or.inl ⟨by rfl, fun w hSw => by obtain ⟨k0, k1, k2, k3, k4, k5, k6⟩ := HE1.out.keep (hSw.block gb HGB.out); go_simp⟩) (by assumption) ?_
            try simp only [Act.put, List.setIfInBounds_toArray, List.set_cons_zero, List.set_cons_succ]
            refine wpAnyH_take (i := 16) (oi := { dst := some 38, op := Op.fieldAddr 43 (Operand.tmp 6) 0, type := 0, pos := "routes.go:131", after := #[{ on := 7, ground := Ground.guard }], guard := some (7, false) }) (v := .pointer (some ⟨zb, 0, none⟩)) rfl (by kernel_rfl) (by kernel_rfl) (by kernel_rfl) (fun _ _ _ h => h) (Or.inl ⟨by rfl, fun w hSw => by go_simp⟩) (by assumption) ?_
            try simp only [Act.put, List.setIfInBounds_toArray, List.set_cons_zero, List.set_cons_succ]
            refine wpAnyH_take (i := 17) (oi := { dst := some 39, op := Op.load 39 (Operand.tmp 38), type := 39, pos := "routes.go:131", after := #[{ on := 16, ground := Ground.data }, { on := 7, ground := Ground.guard }], guard := some (7, false) }) (v := .agg #[.int .u32 (e1.a : Int), .int .u8 (e1.n : Int)]) rfl (by kernel_rfl) (by kernel_rfl) (by kernel_rfl) (fun _ _ _ h => h) (Or.inl ⟨by rfl, fun w hSw => by obtain ⟨p0, p1, p2, p3, p4, p5, p6⟩ := row7 (brow hSw HBX.out); go_simp⟩) (by assumption) ?_
            try simp only [Act.put, List.setIfInBounds_toArray, List.set_cons_zero, List.set_cons_succ]
            refine wpAnyH_take (i := 18) (oi := { dst := some 40, op := Op.binOp BinOp.neq 39 (Operand.tmp 37) (Operand.tmp 39) 39, type := 4, pos := "routes.go:131", after := #[{ on := 15, ground := Ground.data }, { on := 17, ground := Ground.data }, { on := 7, ground := Ground.guard }], guard := some (7, false) }) (v := .bool false) rfl (by kernel_rfl) (by kernel_rfl) (by kernel_rfl) (fun _ _ _ h => h) (Or.inl ⟨by rfl, fun w hSw => by go_simp⟩) (by assumption) ?_
            try simp only [Act.put, List.setIfInBounds_toArray, List.set_cons_zero, List.set_cons_succ]
            refine wpAnyH_take (i := 19) (oi := { dst := some 41, op := Op.pick (Operand.tmp 29) (Operand.const (Value.bool true)) (Operand.tmp 40), type := 4, pos := "routes.go:131", after := #[{ on := 7, ground := Ground.data }, { on := 18, ground := Ground.data }], guard := none }) (v := .bool false) rfl (by kernel_rfl) (by kernel_rfl) (by kernel_rfl) (fun _ _ _ h => h) (Or.inl ⟨by rfl, fun w hSw => by go_simp⟩) (by assumption) ?_
            try simp only [Act.put, List.setIfInBounds_toArray, List.set_cons_zero, List.set_cons_succ]
            refine wpAnyH_done (by kernel_rfl) ?_ _
            try unfold NoPanic
            have HI2 := Lib.hid (HH.out.2.1 _ _ _ HI1.out hHeld)
            clear hHeld
            go_wp2
            go_roundw
            case rel => exact ⟨i0, rfl, k1, by omega, rfl, HI2.out, HK1.out ▸ HG2.out⟩
            case measure => have := HK1.out; simp [intOf]; omega
          · have HG := Lib.hid (HGG.out fun h => hm h.2)
            have HBX2 : Hid (wr.heap[zb]? = some (.cells #[.int .u32 (e1.a : Int), .int .u8 (e.n : Int), .int .i64 (e.b : Int), .int .i64 (e.d : Int), .int .u16 (e.s : Int), .int .u16 (e.m : Int), .int .u64 (e.u : Int)] 43 (0, 0))) := Lib.hid (by rw [ha]; exact HBX.out)
            have hm2 : ¬ (e1.n : Int) = (e.n : Int) := by omega
            clear HGG HGO ha hm HBX
            have HBX := HBX2
            clear HBX2
            refine wp_region_noPanic ?_
            refine wp_region_held_drew (S := fun y : World => Below wr.heap.size wr y) (by kernel_rfl) ((Below.refl _ _).drew) (fun hHeld => ?_)
            generalize wr.drew = wd at *
            refine wpAnyH_take (i := 0) (oi := { dst := some 22, op := Op.move (Operand.tmp 7), type := 3, pos := "routes.go:131", after := #[], guard := none }) (v := .int .i64 (k1 : Int)) rfl (by kernel_rfl) (by kernel_rfl) (by kernel_rfl) (fun _ _ _ h => h) (Or.inl ⟨by rfl, fun w hSw => by go_simp⟩) (by assumption) ?_
            try simp only [Act.put, List.setIfInBounds_toArray, List.set_cons_zero, List.set_cons_succ]
            refine wpAnyH_take (i := 1) (oi := { dst := some 23, op := Op.move (Operand.tmp 0), type := 24, pos := "routes.go:131", after := #[], guard := none }) (v := .pointer (some ⟨q, 0, none⟩)) rfl (by kernel_rfl) (by kernel_rfl) (by kernel_rfl) (fun _ _ _ h => h) (Or.inl ⟨by rfl, fun w hSw => by go_simp⟩) (by assumption) ?_
            try simp only [Act.put, List.setIfInBounds_toArray, List.set_cons_zero, List.set_cons_succ]
            refine wpAnyH_take (i := 2) (oi := { dst := some 24, op := Op.nilCheck (Operand.tmp 23), type := 0, pos := "routes.go:131", after := #[{ on := 1, ground := Ground.data }], guard := none }) (v := .pointer (some ⟨q, 0, none⟩)) rfl (by kernel_rfl) (by kernel_rfl) (by kernel_rfl) (fun _ _ _ h => h) (Or.inl ⟨by rfl, fun w hSw => by go_simp⟩) (by assumption) ?_
            try simp only [Act.put, List.setIfInBounds_toArray, List.set_cons_zero, List.set_cons_succ]
            refine wpAnyH_take (i := 3) (oi := { dst := some 25, op := Op.fieldAddr 72 (Operand.tmp 24) 0, type := 0, pos := "routes.go:131", after := #[{ on := 2, ground := Ground.data }], guard := none }) (v := .pointer (some ⟨q, 0, none⟩)) rfl (by kernel_rfl) (by kernel_rfl) (by kernel_rfl) (fun _ _ _ h => h) (Or.inl ⟨by rfl, fun w hSw => by go_simp⟩) (by assumption) ?_
            try simp only [Act.put, List.setIfInBounds_toArray, List.set_cons_zero, List.set_cons_succ]
            refine wpAnyH_take (i := 4) (oi := { dst := some 26, op := Op.load 26 (Operand.tmp 25), type := 26, pos := "routes.go:131", after := #[{ on := 3, ground := Ground.data }], guard := none }) (v := .slice (some ⟨gb, 0, none⟩) n c) rfl (by kernel_rfl) (by kernel_rfl) (by kernel_rfl) (fun _ _ _ h => h) (Or.inl ⟨by rfl, fun w hSw => by obtain ⟨p0, -⟩ := row1 (brow hSw HRW.out.row); go_simp⟩) (by assumption) ?_
            try simp only [Act.put, List.setIfInBounds_toArray, List.set_cons_zero, List.set_cons_succ]
            refine wpAnyH_take (i := 5) (oi := { dst := some 27, op := Op.call { callee := Callee.builtin Builtin.len, args := #[Operand.tmp 26], argTypes := #[26] }, type := 3, pos := "routes.go:131", after := #[{ on := 4, ground := Ground.data }], guard := none }) (v := .int .i64 (n : Nat)) rfl (by kernel_rfl) (by kernel_rfl) (by kernel_rfl) (fun _ _ _ h => h) (Or.inl ⟨by rfl, fun w hSw => by go_simp⟩) (by assumption) ?_
            try simp only [Act.put, List.setIfInBounds_toArray, List.set_cons_zero, List.set_cons_succ]
            refine wpAnyH_take (i := 6) (oi := { dst := some 28, op := Op.binOp BinOp.eql 3 (Operand.tmp 22) (Operand.tmp 27) 3, type := 4, pos := "routes.go:131", after := #[{ on := 0, ground := Ground.data }, { on := 5, ground := Ground.data }], guard := none }) (v := .bool false) rfl (by kernel_rfl) (by kernel_rfl) (by kernel_rfl) (fun _ _ _ h => h) (Or.inl ⟨by rfl, fun w hSw => by go_simp⟩) (by assumption) ?_
            try simp only [Act.put, List.setIfInBounds_toArray, List.set_cons_zero, List.set_cons_succ]
            refine wpAnyH_take (i := 7) (oi := { dst := some 29, op := Op.move (Operand.tmp 28), type := 4, pos := "routes.go:131", after := #[{ on := 6, ground := Ground.data }], guard := none }) (v := .bool false) rfl (by kernel_rfl) (by kernel_rfl) (by kernel_rfl) (fun _ _ _ h => h) (Or.inl ⟨by rfl, fun w hSw => by go_simp⟩) (by assumption) ?_
            try simp only [Act.put, List.setIfInBounds_toArray, List.set_cons_zero, List.set_cons_succ]
            refine wpAnyH_take (i := 8) (oi := { dst := some 30, op := Op.move (Operand.tmp 0), type := 24, pos := "routes.go:131", after := #[{ on := 7, ground := Ground.guard }], guard := some (7, false) }) (v := .pointer (some ⟨q, 0, none⟩)) rfl (by kernel_rfl) (by kernel_rfl) (by kernel_rfl) (fun _ _ _ h => h) (Or.inl ⟨by rfl, fun w hSw => by go_simp⟩) (by assumption) ?_
            try simp only [Act.put, List.setIfInBounds_toArray, List.set_cons_zero, List.set_cons_succ]
            refine wpAnyH_take (i := 9) (oi := { dst := some 31, op := Op.nilCheck (Operand.tmp 30), type := 0, pos := "routes.go:131", after := #[{ on := 8, ground := Ground.data }, { on := 7, ground := Ground.guard }], guard := some (7, false) }) (v := .pointer (some ⟨q, 0, none⟩)) rfl (by kernel_rfl) (by kernel_rfl) (by kernel_rfl) (fun _ _ _ h => h) (Or.inl ⟨by rfl, fun w hSw => by go_simp⟩) (by assumption) ?_
            try simp only [Act.put, List.setIfInBounds_toArray, List.set_cons_zero, List.set_cons_succ]
            refine wpAnyH_take (i := 10) (oi := { dst := some 32, op := Op.fieldAddr 72 (Operand.tmp 31) 0, type := 0, pos := "routes.go:131", after := #[{ on := 9, ground := Ground.data }, { on := 7, ground := Ground.guard }], guard := some (7, false) }) (v := .pointer (some ⟨q, 0, none⟩)) rfl (by kernel_rfl) (by kernel_rfl) (by kernel_rfl) (fun _ _ _ h => h) (Or.inl ⟨by rfl, fun w hSw => by go_simp⟩) (by assumption) ?_
            try simp only [Act.put, List.setIfInBounds_toArray, List.set_cons_zero, List.set_cons_succ]
            refine wpAnyH_take (i := 11) (oi := { dst := some 33, op := Op.load 26 (Operand.tmp 32), type := 26, pos := "routes.go:131", after := #[{ on := 10, ground := Ground.data }, { on := 7, ground := Ground.guard }], guard := some (7, false) }) (v := .slice (some ⟨gb, 0, none⟩) n c) rfl (by kernel_rfl) (by kernel_rfl) (by kernel_rfl) (fun _ _ _ h => h) (Or.inl ⟨by rfl, fun w hSw => by obtain ⟨p0, -⟩ := row1 (brow hSw HRW.out.row); go_simp⟩) (by assumption) ?_
            try simp only [Act.put, List.setIfInBounds_toArray, List.set_cons_zero, List.set_cons_succ]
            refine wpAnyH_take (i := 12) (oi := { dst := some 34, op := Op.move (Operand.tmp 7), type := 3, pos := "routes.go:131", after := #[{ on := 7, ground := Ground.guard }], guard := some (7, false) }) (v := .int .i64 (k1 : Int)) rfl (by kernel_rfl) (by kernel_rfl) (by kernel_rfl) (fun _ _ _ h => h) (Or.inl ⟨by rfl, fun w hSw => by go_simp⟩) (by assumption) ?_
            try simp only [Act.put, List.setIfInBounds_toArray, List.set_cons_zero, List.set_cons_succ]
            refine wpAnyH_take (i := 13) (oi := { dst := some 35, op := Op.indexAddr 26 (Operand.tmp 33) (Operand.tmp 34), type := 0, pos := "routes.go:131", after := #[{ on := 11, ground := Ground.data }, { on := 12, ground := Ground.data }, { on := 7, ground := Ground.guard }], guard := some (7, false) }) (v := .pointer (some ⟨gb, k1 * 7, none⟩)) rfl (by kernel_rfl) (by kernel_rfl) (by kernel_rfl) (fun _ _ _ h => h) (Or.inl ⟨by rfl, fun w hSw => by go_simp⟩) (by assumption) ?_
            try simp only [Act.put, List.setIfInBounds_toArray, List.set_cons_zero, List.set_cons_succ]
            refine wpAnyH_take (i := 14) (oi := { dst := some 36, op := Op.fieldAddr 43 (Operand.tmp 35) 0, type := 0, pos := "routes.go:131", after := #[{ on := 13, ground := Ground.data }, { on := 7, ground := Ground.guard }], guard := some (7, false) }) (v := .pointer (some ⟨gb, k1 * 7, none⟩)) rfl (by kernel_rfl) (by kernel_rfl) (by kernel_rfl) (fun _ _ _ h => h) (Or.inl ⟨by rfl, fun w hSw => by go_simp⟩) (by assumption) ?_
            try simp only [Act.put, List.setIfInBounds_toArray, List.set_cons_zero, List.set_cons_succ]
            refine wpAnyH_take (i := 15) (oi := { dst := some 37, op := Op.load 39 (Operand.tmp 36), type := 39, pos := "routes.go:131", after := #[{ on := 14, ground := Ground.data }, { on := 7, ground := Ground.guard }], guard := some (7, false) }) (v := .agg #[.int .u32 (e1.a : Int), .int .u8 (e1.n : Int)]) rfl (by kernel_rfl) (by kernel_rfl) (by kernel_rfl) (fun _ _ _ h => h) (Or.inl ⟨by rfl, fun w hSw => by obtain ⟨k0, k1, k2, k3, k4, k5, k6⟩ := HE1.out.keep (hSw.block gb HGB.out); go_simp⟩) (by assumption) ?_
            try simp only [Act.put, List.setIfInBounds_toArray, List.set_cons_zero, List.set_cons_succ]
            refine wpAnyH_take (i := 16) (oi := { dst := some 38, op := Op.fieldAddr 43 (Operand.tmp 6) 0, type := 0, pos := "routes.go:131", after := #[{ on := 7, ground := Ground.guard }], guard := some (7, false) }) (v := .pointer (some ⟨zb, 0, none⟩)) rfl (by kernel_rfl) (by kernel_rfl) (by kernel_rfl) (fun _ _ _ h => h) (Or.inl ⟨by rfl, fun w hSw => by go_simp⟩) (by assumption) ?_
            try simp only [Act.put, List.setIfInBounds_toArray, List.set_cons_zero, List.set_cons_succ]
            refine wpAnyH_take (i := 17) (oi := { dst := some 39, op := Op.load 39 (Operand.tmp 38), type := 39, pos := "routes.go:131", after := #[{ on := 16, ground := Ground.data }, { on := 7, ground := Ground.guard }], guard := some (7, false) }) (v := .agg #[.int .u32 (e1.a : Int), .int .u8 (e.n : Int)]) rfl (by kernel_rfl) (by kernel_rfl) (by kernel_rfl) (fun _ _ _ h => h) (Or.inl ⟨by rfl, fun w hSw => by obtain ⟨p0, p1, p2, p3, p4, p5, p6⟩ := row7 (brow hSw HBX.out); go_simp⟩) (by assumption) ?_
            try simp only [Act.put, List.setIfInBounds_toArray, List.set_cons_zero, List.set_cons_succ]
            refine wpAnyH_take (i := 18) (oi := { dst := some 40, op := Op.binOp BinOp.neq 39 (Operand.tmp 37) (Operand.tmp 39) 39, type := 4, pos := "routes.go:131", after := #[{ on := 15, ground := Ground.data }, { on := 17, ground := Ground.data }, { on := 7, ground := Ground.guard }], guard := some (7, false) }) (v := .bool true) rfl (by kernel_rfl) (by kernel_rfl) (by kernel_rfl) (fun _ _ _ h => h) (Or.inl ⟨by rfl, fun w hSw => by go_simp⟩) (by assumption) ?_
            try simp only [Act.put, List.setIfInBounds_toArray, List.set_cons_zero, List.set_cons_succ]
            refine wpAnyH_take (i := 19) (oi := { dst := some 41, op := Op.pick (Operand.tmp 29) (Operand.const (Value.bool true)) (Operand.tmp 40), type := 4, pos := "routes.go:131", after := #[{ on := 7, ground := Ground.data }, { on := 18, ground := Ground.data }], guard := none }) (v := .bool true) rfl (by kernel_rfl) (by kernel_rfl) (by kernel_rfl) (fun _ _ _ h => h) (Or.inl ⟨by rfl, fun w hSw => by go_simp⟩) (by assumption) ?_
            try simp only [Act.put, List.setIfInBounds_toArray, List.set_cons_zero, List.set_cons_succ]
            refine wpAnyH_done (by kernel_rfl) ?_ _
            try unfold NoPanic
            have HI2 := Lib.hid (HH.out.2.1 _ _ _ HI1.out hHeld)
            have HR2 := Lib.hid (HRW.out.kept hHeld)
            clear hHeld
            obtain ⟨q0, -⟩ := row1 HR2.out.row
            have hql2 := HR2.out.lt
            have hcall := HH.out.2.2.2.1 i0 (k + 1) wd gb c HVn.out HI2.out HG.out.1
            rw [← HK1.out] at hcall
            have hci : i0 ≤ k1 := by have := HK1.out; omega
            have hcc : k1 ≤ c := by have := HK1.out; omega
            go_wp2_with (go_at_fn g; refine hcall.mono ?_; rintro en w' ⟨rfl, hI'⟩; have HI3 := Lib.hid hI'; clear hI')
            go_roundw
            case rel => exact ⟨k1, rfl, k1, by omega, rfl, HI3.out, HK1.out ▸ HG.out.2⟩
            case measure => have := HK1.out; simp [intOf]; omega
        · have HG := Lib.hid (HGG.out fun h => ha h.1)
          have ha2 : ¬ (e1.a : Int) = (e.a : Int) := by omega
          clear HGG HGO ha
          refine wp_region_noPanic ?_
          refine wp_region_held_drew (S := fun y : World => Below wr.heap.size wr y) (by kernel_rfl) ((Below.refl _ _).drew) (fun hHeld => ?_)
          generalize wr.drew = wd at *
          refine wpAnyH_take (i := 0) (oi := { dst := some 22, op := Op.move (Operand.tmp 7), type := 3, pos := "routes.go:131", after := #[], guard := none }) (v := .int .i64 (k1 : Int)) rfl (by kernel_rfl) (by kernel_rfl) (by kernel_rfl) (fun _ _ _ h => h) (Or.inl ⟨by rfl, fun w hSw => by go_simp⟩) (by assumption) ?_
          try simp only [Act.put, List.setIfInBounds_toArray, List.set_cons_zero, List.set_cons_succ]
          refine wpAnyH_take (i := 1) (oi := { dst := some 23, op := Op.move (Operand.tmp 0), type := 24, pos := "routes.go:131", after := #[], guard := none }) (v := .pointer (some ⟨q, 0, none⟩)) rfl (by kernel_rfl) (by kernel_rfl) (by kernel_rfl) (fun _ _ _ h => h) (Or.inl ⟨by rfl, fun w hSw => by go_simp⟩) (by assumption) ?_
          try simp only [Act.put, List.setIfInBounds_toArray, List.set_cons_zero, List.set_cons_succ]
          refine wpAnyH_take (i := 2) (oi := { dst := some 24, op := Op.nilCheck (Operand.tmp 23), type := 0, pos := "routes.go:131", after := #[{ on := 1, ground := Ground.data }], guard := none }) (v := .pointer (some ⟨q, 0, none⟩)) rfl (by kernel_rfl) (by kernel_rfl) (by kernel_rfl) (fun _ _ _ h => h) (Or.inl ⟨by rfl, fun w hSw => by go_simp⟩) (by assumption) ?_
          try simp only [Act.put, List.setIfInBounds_toArray, List.set_cons_zero, List.set_cons_succ]
          refine wpAnyH_take (i := 3) (oi := { dst := some 25, op := Op.fieldAddr 72 (Operand.tmp 24) 0, type := 0, pos := "routes.go:131", after := #[{ on := 2, ground := Ground.data }], guard := none }) (v := .pointer (some ⟨q, 0, none⟩)) rfl (by kernel_rfl) (by kernel_rfl) (by kernel_rfl) (fun _ _ _ h => h) (Or.inl ⟨by rfl, fun w hSw => by go_simp⟩) (by assumption) ?_
          try simp only [Act.put, List.setIfInBounds_toArray, List.set_cons_zero, List.set_cons_succ]
          refine wpAnyH_take (i := 4) (oi := { dst := some 26, op := Op.load 26 (Operand.tmp 25), type := 26, pos := "routes.go:131", after := #[{ on := 3, ground := Ground.data }], guard := none }) (v := .slice (some ⟨gb, 0, none⟩) n c) rfl (by kernel_rfl) (by kernel_rfl) (by kernel_rfl) (fun _ _ _ h => h) (Or.inl ⟨by rfl, fun w hSw => by obtain ⟨p0, -⟩ := row1 (brow hSw HRW.out.row); go_simp⟩) (by assumption) ?_
          try simp only [Act.put, List.setIfInBounds_toArray, List.set_cons_zero, List.set_cons_succ]
          refine wpAnyH_take (i := 5) (oi := { dst := some 27, op := Op.call { callee := Callee.builtin Builtin.len, args := #[Operand.tmp 26], argTypes := #[26] }, type := 3, pos := "routes.go:131", after := #[{ on := 4, ground := Ground.data }], guard := none }) (v := .int .i64 (n : Nat)) rfl (by kernel_rfl) (by kernel_rfl) (by kernel_rfl) (fun _ _ _ h => h) (Or.inl ⟨by rfl, fun w hSw => by go_simp⟩) (by assumption) ?_
          try simp only [Act.put, List.setIfInBounds_toArray, List.set_cons_zero, List.set_cons_succ]
          refine wpAnyH_take (i := 6) (oi := { dst := some 28, op := Op.binOp BinOp.eql 3 (Operand.tmp 22) (Operand.tmp 27) 3, type := 4, pos := "routes.go:131", after := #[{ on := 0, ground := Ground.data }, { on := 5, ground := Ground.data }], guard := none }) (v := .bool false) rfl (by kernel_rfl) (by kernel_rfl) (by kernel_rfl) (fun _ _ _ h => h) (Or.inl ⟨by rfl, fun w hSw => by go_simp⟩) (by assumption) ?_
          try simp only [Act.put, List.setIfInBounds_toArray, List.set_cons_zero, List.set_cons_succ]
          refine wpAnyH_take (i := 7) (oi := { dst := some 29, op := Op.move (Operand.tmp 28), type := 4, pos := "routes.go:131", after := #[{ on := 6, ground := Ground.data }], guard := none }) (v := .bool false) rfl (by kernel_rfl) (by kernel_rfl) (by kernel_rfl) (fun _ _ _ h => h) (Or.inl ⟨by rfl, fun w hSw => by go_simp⟩) (by assumption) ?_
          try simp only [Act.put, List.setIfInBounds_toArray, List.set_cons_zero, List.set_cons_succ]
          refine wpAnyH_take (i := 8) (oi := { dst := some 30, op := Op.move (Operand.tmp 0), type := 24, pos := "routes.go:131", after := #[{ on := 7, ground := Ground.guard }], guard := some (7, false) }) (v := .pointer (some ⟨q, 0, none⟩)) rfl (by kernel_rfl) (by kernel_rfl) (by kernel_rfl) (fun _ _ _ h => h) (Or.inl ⟨by rfl, fun w hSw => by go_simp⟩) (by assumption) ?_
          try simp only [Act.put, List.setIfInBounds_toArray, List.set_cons_zero, List.set_cons_succ]
          refine wpAnyH_take (i := 9) (oi := { dst := some 31, op := Op.nilCheck (Operand.tmp 30), type := 0, pos := "routes.go:131", after := #[{ on := 8, ground := Ground.data }, { on := 7, ground := Ground.guard }], guard := some (7, false) }) (v := .pointer (some ⟨q, 0, none⟩)) rfl (by kernel_rfl) (by kernel_rfl) (by kernel_rfl) (fun _ _ _ h => h) (Or.inl ⟨by rfl, fun w hSw => by go_simp⟩) (by assumption) ?_
          try simp only [Act.put, List.setIfInBounds_toArray, List.set_cons_zero, List.set_cons_succ]
          refine wpAnyH_take (i := 10) (oi := { dst := some 32, op := Op.fieldAddr 72 (Operand.tmp 31) 0, type := 0, pos := "routes.go:131", after := #[{ on := 9, ground := Ground.data }, { on := 7, ground := Ground.guard }], guard := some (7, false) }) (v := .pointer (some ⟨q, 0, none⟩)) rfl (by kernel_rfl) (by kernel_rfl) (by kernel_rfl) (fun _ _ _ h => h) (Or.inl ⟨by rfl, fun w hSw => by go_simp⟩) (by assumption) ?_
          try simp only [Act.put, List.setIfInBounds_toArray, List.set_cons_zero, List.set_cons_succ]
          refine wpAnyH_take (i := 11) (oi := { dst := some 33, op := Op.load 26 (Operand.tmp 32), type := 26, pos := "routes.go:131", after := #[{ on := 10, ground := Ground.data }, { on := 7, ground := Ground.guard }], guard := some (7, false) }) (v := .slice (some ⟨gb, 0, none⟩) n c) rfl (by kernel_rfl) (by kernel_rfl) (by kernel_rfl) (fun _ _ _ h => h) (Or.inl ⟨by rfl, fun w hSw => by obtain ⟨p0, -⟩ := row1 (brow hSw HRW.out.row); go_simp⟩) (by assumption) ?_
          try simp only [Act.put, List.setIfInBounds_toArray, List.set_cons_zero, List.set_cons_succ]
          refine wpAnyH_take (i := 12) (oi := { dst := some 34, op := Op.move (Operand.tmp 7), type := 3, pos := "routes.go:131", after := #[{ on := 7, ground := Ground.guard }], guard := some (7, false) }) (v := .int .i64 (k1 : Int)) rfl (by kernel_rfl) (by kernel_rfl) (by kernel_rfl) (fun _ _ _ h => h) (Or.inl ⟨by rfl, fun w hSw => by go_simp⟩) (by assumption) ?_
          try simp only [Act.put, List.setIfInBounds_toArray, List.set_cons_zero, List.set_cons_succ]
          refine wpAnyH_take (i := 13) (oi := { dst := some 35, op := Op.indexAddr 26 (Operand.tmp 33) (Operand.tmp 34), type := 0, pos := "routes.go:131", after := #[{ on := 11, ground := Ground.data }, { on := 12, ground := Ground.data }, { on := 7, ground := Ground.guard }], guard := some (7, false) }) (v := .pointer (some ⟨gb, k1 * 7, none⟩)) rfl (by kernel_rfl) (by kernel_rfl) (by kernel_rfl) (fun _ _ _ h => h) (Or.inl ⟨by rfl, fun w hSw => by go_simp⟩) (by assumption) ?_
          try simp only [Act.put, List.setIfInBounds_toArray, List.set_cons_zero, List.set_cons_succ]
          refine wpAnyH_take (i := 14) (oi := { dst := some 36, op := Op.fieldAddr 43 (Operand.tmp 35) 0, type := 0, pos := "routes.go:131", after := #[{ on := 13, ground := Ground.data }, { on := 7, ground := Ground.guard }], guard := some (7, false) }) (v := .pointer (some ⟨gb, k1 * 7, none⟩)) rfl (by kernel_rfl) (by kernel_rfl) (by kernel_rfl) (fun _ _ _ h => h) (Or.inl ⟨by rfl, fun w hSw => by go_simp⟩) (by assumption) ?_
          try simp only [Act.put, List.setIfInBounds_toArray, List.set_cons_zero, List.set_cons_succ]
          refine wpAnyH_take (i := 15) (oi := { dst := some 37, op := Op.load 39 (Operand.tmp 36), type := 39, pos := "routes.go:131", after := #[{ on := 14, ground := Ground.data }, { on := 7, ground := Ground.guard }], guard := some (7, false) }) (v := .agg #[.int .u32 (e1.a : Int), .int .u8 (e1.n : Int)]) rfl (by kernel_rfl) (by kernel_rfl) (by kernel_rfl) (fun _ _ _ h => h) (Or.inl ⟨by rfl, fun w hSw => by obtain ⟨k0, k1, k2, k3, k4, k5, k6⟩ := HE1.out.keep (hSw.block gb HGB.out); go_simp⟩) (by assumption) ?_
          try simp only [Act.put, List.setIfInBounds_toArray, List.set_cons_zero, List.set_cons_succ]
          refine wpAnyH_take (i := 16) (oi := { dst := some 38, op := Op.fieldAddr 43 (Operand.tmp 6) 0, type := 0, pos := "routes.go:131", after := #[{ on := 7, ground := Ground.guard }], guard := some (7, false) }) (v := .pointer (some ⟨zb, 0, none⟩)) rfl (by kernel_rfl) (by kernel_rfl) (by kernel_rfl) (fun _ _ _ h => h) (Or.inl ⟨by rfl, fun w hSw => by go_simp⟩) (by assumption) ?_
          try simp only [Act.put, List.setIfInBounds_toArray, List.set_cons_zero, List.set_cons_succ]
          refine wpAnyH_take (i := 17) (oi := { dst := some 39, op := Op.load 39 (Operand.tmp 38), type := 39, pos := "routes.go:131", after := #[{ on := 16, ground := Ground.data }, { on := 7, ground := Ground.guard }], guard := some (7, false) }) (v := .agg #[.int .u32 (e.a : Int), .int .u8 (e.n : Int)]) rfl (by kernel_rfl) (by kernel_rfl) (by kernel_rfl) (fun _ _ _ h => h) (Or.inl ⟨by rfl, fun w hSw => by obtain ⟨p0, p1, p2, p3, p4, p5, p6⟩ := row7 (brow hSw HBX.out); go_simp⟩) (by assumption) ?_
          try simp only [Act.put, List.setIfInBounds_toArray, List.set_cons_zero, List.set_cons_succ]
          refine wpAnyH_take (i := 18) (oi := { dst := some 40, op := Op.binOp BinOp.neq 39 (Operand.tmp 37) (Operand.tmp 39) 39, type := 4, pos := "routes.go:131", after := #[{ on := 15, ground := Ground.data }, { on := 17, ground := Ground.data }, { on := 7, ground := Ground.guard }], guard := some (7, false) }) (v := .bool true) rfl (by kernel_rfl) (by kernel_rfl) (by kernel_rfl) (fun _ _ _ h => h) (Or.inl ⟨by rfl, fun w hSw => by go_simp⟩) (by assumption) ?_
          try simp only [Act.put, List.setIfInBounds_toArray, List.set_cons_zero, List.set_cons_succ]
          refine wpAnyH_take (i := 19) (oi := { dst := some 41, op := Op.pick (Operand.tmp 29) (Operand.const (Value.bool true)) (Operand.tmp 40), type := 4, pos := "routes.go:131", after := #[{ on := 7, ground := Ground.data }, { on := 18, ground := Ground.data }], guard := none }) (v := .bool true) rfl (by kernel_rfl) (by kernel_rfl) (by kernel_rfl) (fun _ _ _ h => h) (Or.inl ⟨by rfl, fun w hSw => by go_simp⟩) (by assumption) ?_
          try simp only [Act.put, List.setIfInBounds_toArray, List.set_cons_zero, List.set_cons_succ]
          refine wpAnyH_done (by kernel_rfl) ?_ _
          try unfold NoPanic
          have HI2 := Lib.hid (HH.out.2.1 _ _ _ HI1.out hHeld)
          have HR2 := Lib.hid (HRW.out.kept hHeld)
          clear hHeld
          obtain ⟨q0, -⟩ := row1 HR2.out.row
          have hql2 := HR2.out.lt
          have hcall := HH.out.2.2.2.1 i0 (k + 1) wd gb c HVn.out HI2.out HG.out.1
          rw [← HK1.out] at hcall
          have hci : i0 ≤ k1 := by have := HK1.out; omega
          have hcc : k1 ≤ c := by have := HK1.out; omega
          go_wp2_with (go_at_fn g; refine hcall.mono ?_; rintro en w' ⟨rfl, hI'⟩; have HI3 := Lib.hid hI'; clear hI')
          go_roundw
          case rel => exact ⟨k1, rfl, k1, by omega, rfl, HI3.out, HK1.out ▸ HG.out.2⟩
          case measure => have := HK1.out; simp [intOf]; omega
    · obtain rfl : k = n := by omega
      have hfin := HI.out.2.fin HH.out.1
      have HF := Lib.hid (hfin ▸ HI.out.1)
      clear hfin
      go_wp2
      exact bodyPost_end (v := .tuple #[]) (by simp [results, Try.results33, go_sem]) rfl ⟨rfl, HF.out⟩
end Go.Proofs.Ytkbhmdoichiinaa.Rts
