/- each: what is told of each prefix. The shortest way: cost, feasible, shortest. The shortest way. What is selected, what is blocked: plainly; lists of rows of any kind in memory of the call's own. -/
import Derived.Test.YtjbogjbopgcbhaaGreatDoorYC
namespace Go.Proofs.YtjbogjbopgcbhaaGreatDoor.Rts
open Pre Ser
open Go.Proofs.YtjbogjbopgcbhaaGreatDoor.Src (row1 row2)
open Go.ChangeShapes Go.WideShapes Go.ChangeAt Go.RowKit
set_option maxRecDepth 8000
set_option linter.unusedVariables false
def samep (x y : E) : Prop := x.a = y.a ∧ x.n = y.n
structure Grp (L : List E) (i j : Nat) : Prop where
  lt : i < j
  le : j ≤ L.length
  all : ∀ k (hk : k < L.length), i ≤ k → k < j → samep L[k] (L[i]'(Nat.lt_of_lt_of_le lt le))
  fst : i = 0 ∨ ∃ h : i - 1 < L.length, ¬ samep L[i - 1] (L[i]'(Nat.lt_of_lt_of_le lt le))
  lst : j = L.length ∨ ∃ h : j < L.length, ¬ samep L[j] (L[i]'(Nat.lt_of_lt_of_le lt le))
structure Ech (L : List E) (i k : Nat) : Prop where
  le : i ≤ k
  ln : k ≤ L.length
  all : ∀ (hk : k < L.length) k' (hk' : k' < L.length), i ≤ k' → k' ≤ k → samep L[k'] L[k]
  fst : i = 0 ∨ ∀ (hi : i < L.length) (h : i - 1 < L.length), ¬ samep L[i - 1] L[i]
  fin : k = L.length → i = L.length
theorem samep.symm {x y : E} (h : samep x y) : samep y x := ⟨h.1.symm, h.2.symm⟩
theorem samep.trans {x y z : E} (h : samep x y) (h' : samep y z) : samep x z := ⟨h.1.trans h'.1, h.2.trans h'.2⟩
theorem Ech.start (L : List E) : Ech L 0 0 := ⟨Nat.le_refl _, Nat.zero_le _, fun hk k' hk' h1 h2 => by
  obtain rfl : k' = 0 := by omega
  exact ⟨rfl, rfl⟩, Or.inl rfl, fun h => h⟩
theorem Ech.grp {L : List E} {i k : Nat} (h : Ech L i k) (hk : k < L.length) (he : k + 1 = L.length ∨ ∃ h : k + 1 < L.length, ¬ samep L[k + 1] L[k]) : Grp L i (k + 1) ∧ Ech L (k + 1) (k + 1) := by
  have hle := h.le
  have hil : i < L.length := by omega
  have hik := h.all hk i hil (Nat.le_refl _) h.le
  refine ⟨⟨by omega, hk, fun k' hk' h1 h2 => (h.all hk k' hk' h1 (by omega)).trans hik.symm, ?_, ?_⟩, ⟨Nat.le_refl _, hk, fun hk2 k' hk' h1 h2 => ?_, Or.inr fun hi h2 => ?_, fun h => h⟩⟩
  · rcases h.fst with h0 | h0
    · exact Or.inl h0
    · by_cases h1 : i = 0
      · exact Or.inl h1
      · exact Or.inr ⟨by omega, h0 hil (by omega)⟩
  · rcases he with he | ⟨h1, h2⟩
    · exact Or.inl he
    · exact Or.inr ⟨h1, fun e => h2 (e.trans hik)⟩
  · obtain rfl : k' = k + 1 := by omega
    exact ⟨rfl, rfl⟩
  · rcases he with he | ⟨h1, h3⟩
    · omega
    · exact fun e => h3 e.symm
theorem Ech.go {L : List E} {i k : Nat} (h : Ech L i k) (hk : k + 1 < L.length) (he : samep L[k + 1] L[k]) : Ech L i (k + 1) :=
  ⟨by have := h.le; omega, by omega, fun hk2 k' hk' h1 h2 => by
    rcases Nat.lt_or_eq_of_le h2 with h3 | h3
    · exact (h.all (by omega) k' hk' h1 (by omega)).trans he.symm
    · subst h3; exact ⟨rfl, rfl⟩, h.fst, fun e => by omega⟩
set_option maxHeartbeats 4000000 in
theorem each_any (w : World) (lo q : Nat) (v : Value) (L : List E) (hlen : L.length ≤ 1000) (g : Nat) (lb : Array Value) (eg : ∀ args w, (callFunc g args).run Tryz.prog w = .ok (.enter g args) w) (I : Nat → World → Prop) (h0 : I 0 w)
    (hb : ∀ k W W', I k W → Below W.heap.size W W' → I k W') (hr : ∀ k W, I k W → RtsAt lo W q L v)
    (hc : ∀ i j W gb cp, v = .slice (some ⟨gb, 0, none⟩) L.length cp → I i W → Grp L i j → Calls Tryz.prog g (#[.slice (some ⟨gb, i * 7, none⟩) (j - i) (cp - i)] ++ lb) W fun en w' => en = .returned (.tuple #[]) ∧ I j w') :
    Calls Tryz.prog 89 #[.pointer (some ⟨q, 0, none⟩), .func (.func g) #[] lb] w fun en w' => en = .returned (.tuple #[]) ∧ I L.length w' := by
  obtain ⟨A, c, hv, -, -⟩ := (hr 0 w h0).own.form
  obtain ⟨q0, -⟩ := row1 (hr 0 w h0).row
  have hql := (hr 0 w h0).lt
  rw [hv] at q0
  obtain ⟨n, hn⟩ : ∃ n, n = L.length := ⟨_, rfl⟩
  rw [← hn] at q0 hlen
  have HH := Lib.hid (And.intro hn (And.intro hb (And.intro hr (And.intro hc hv))))
  have H0 := Lib.hid h0
  clear hn hb hr hc hv h0
  go_enter Tryz.func89, Tryz.ntmps89
  go_wp2
  clear q0 hql
  go_loopw [4, 15] (fun f i wr => ∃ i0 : Nat, f = .int .i64 i0 ∧ ∃ k : Nat, k ≤ n ∧ i = .int .i64 k ∧ Hid (I i0 wr ∧ Ech L i0 k)) (fun _ i _ => n - (intOf i).toNat)
  case atStart => exact ⟨0, rfl, 0, Nat.zero_le _, rfl, H0.out, Ech.start L⟩
  case round =>
    obtain ⟨i0, rfl, k, hk, rfl, HI⟩ := hrel
    clear H0
    by_cases hlt : k < n
    · have hkl : k < L.length := by rw [← HH.out.1]; exact hlt
      have hR := HH.out.2.2.1 _ _ HI.out.1
      obtain ⟨gb, cp, cur, hv, -, hg, hcp, hcm, -, -, hEs⟩ := hR.own.rows (by omega)
      have hAc : A = some ⟨gb, 0, none⟩ ∧ c = cp := by
        have := HH.out.2.2.2.2
        rw [hv] at this
        injection this with e1 _ e3
        exact ⟨e1.symm, e3.symm⟩
      obtain ⟨rfl, rfl⟩ := hAc
      have HRW := Lib.hid hR
      have HV := Lib.hid hv
      have hgbl := (Array.getElem?_eq_some_iff.1 hg).1
      rw [← HH.out.1] at hcp
      have hE := hEs k hkl
      have HES := Lib.hid hEs
      obtain ⟨e, he⟩ : ∃ e, e = L[k] := ⟨_, rfl⟩
      rw [← he] at hE
      have HE := Lib.hid he
      obtain ⟨k0, k1', k2, k3, k4, k5, k6⟩ := hE
      have hile := HI.out.2.le
      obtain ⟨k1, hk1⟩ : ∃ k1, k1 = k + 1 := ⟨_, rfl⟩
      have hwk : IntKind.i64.wrap ((k : Int) + 1) = (k1 : Int) := by rw [IntKind.wrap_i64]; omega
      have HK1 := Lib.hid hk1
      clear hR hv hEs he hg hk1
      go_upto_region 6 with (fail)
      clear k0 k1' k2 k3 k4 k5 k6
      have hbx := heap_alloc_new wr (.cells #[.int .u32 (e.a : Int), .int .u8 (e.n : Int), .int .i64 (e.b : Int), .int .i64 (e.d : Int), .int .u16 (e.s : Int), .int .u16 (e.m : Int), .int .u64 (e.u : Int)] 173)
      have hB0 := (Below.refl wr.heap.size wr).alloc (Nat.le_refl _) (.cells #[.int .u32 (e.a : Int), .int .u8 (e.n : Int), .int .i64 (e.b : Int), .int .i64 (e.d : Int), .int .u16 (e.s : Int), .int .u16 (e.m : Int), .int .u64 (e.u : Int)] 173)
      have HBX := Lib.hid hbx
      have HI1 := Lib.hid (HH.out.2.1 _ _ _ HI.out.1 hB0)
      replace HRW := Lib.hid (HRW.out.kept hB0)
      have hEv : ∀ k' (hk' : k' < L.length), EAt (wr.alloc (.cells #[.int .u32 (e.a : Int), .int .u8 (e.n : Int), .int .i64 (e.b : Int), .int .i64 (e.d : Int), .int .u16 (e.s : Int), .int .u16 (e.m : Int), .int .u64 (e.u : Int)] 173)) gb (k' * 7) L[k'] := fun k' hk' => (HES.out k' hk').keep (hB0.block gb hgbl)
      have HEV := Lib.hid hEv
      have hgbl2 := Nat.lt_of_lt_of_le hgbl hB0.size
      clear hbx hB0 HES hEv hgbl
      generalize wr.alloc _ = wb at *
      generalize wr.heap.size = zb at *
      generalize wb = wr at *
      have HGB := Lib.hid hgbl2
      have hr' := HH.out.2.2.1
      have HR' := Lib.hid hr'
      clear hr'
      have hv' := HH.out.2.2.2.2
      rw [hv'] at HRW
      have HVn := Lib.hid (show v = .slice (some ⟨gb, 0, none⟩) L.length c from hv')
      rw [← HH.out.1] at HRW
      clear hv' hgbl2
      by_cases hl : k + 1 = n
      · have hend : k1 = n := by have := HK1.out; omega
        have HG := Lib.hid (HI.out.2.grp hkl (Or.inl (by rw [← HH.out.1]; exact hl)))
        have hee : ((k1 : Int) == (n : Int)) = true := by simp; omega
        have hk1n : k1 ≤ n := by omega
        clear hend
        refine wp_region_noPanic ?_
        refine wp_region_held_drew (S := fun y : World => Below wr.heap.size wr y) (by kernel_rfl) ((Below.refl _ _).drew) (fun hHeld => ?_)
        generalize wr.drew = wd at *
        refine wpAnyH_take (i := 0) (oi := ⟨some 22, .move (.tmp 7), 3, "routes.go:131", #[], none⟩) (v := .int .i64 (k1 : Int)) rfl (by kernel_rfl) (by kernel_rfl) (by kernel_rfl) (fun _ _ _ h => h) (Or.inl ⟨by rfl, fun w hSw => by go_simp⟩) (by assumption) ?_
        try simp only [Act.put, List.setIfInBounds_toArray, List.set_cons_zero, List.set_cons_succ]
        refine wpAnyH_take (i := 1) (oi := ⟨some 23, .move (.tmp 0), 90, "routes.go:131", #[], none⟩) (v := .pointer (some ⟨q, 0, none⟩)) rfl (by kernel_rfl) (by kernel_rfl) (by kernel_rfl) (fun _ _ _ h => h) (Or.inl ⟨by rfl, fun w hSw => by go_simp⟩) (by assumption) ?_
        try simp only [Act.put, List.setIfInBounds_toArray, List.set_cons_zero, List.set_cons_succ]
        refine wpAnyH_take (i := 2) (oi := ⟨some 24, .nilCheck (.tmp 23), 0, "routes.go:131", #[⟨1, .data⟩], none⟩) (v := .pointer (some ⟨q, 0, none⟩)) rfl (by kernel_rfl) (by kernel_rfl) (by kernel_rfl) (fun _ _ _ h => h) (Or.inl ⟨by rfl, fun w hSw => by go_simp⟩) (by assumption) ?_
        try simp only [Act.put, List.setIfInBounds_toArray, List.set_cons_zero, List.set_cons_succ]
        refine wpAnyH_take (i := 3) (oi := ⟨some 25, .fieldAddr 177 (.tmp 24) 0, 0, "routes.go:131", #[⟨2, .data⟩], none⟩) (v := .pointer (some ⟨q, 0, none⟩)) rfl (by kernel_rfl) (by kernel_rfl) (by kernel_rfl) (fun _ _ _ h => h) (Or.inl ⟨by rfl, fun w hSw => by go_simp⟩) (by assumption) ?_
        try simp only [Act.put, List.setIfInBounds_toArray, List.set_cons_zero, List.set_cons_succ]
        refine wpAnyH_take (i := 4) (oi := ⟨some 26, .load 149 (.tmp 25), 149, "routes.go:131", #[⟨3, .data⟩], none⟩) (v := .slice (some ⟨gb, 0, none⟩) n c) rfl (by kernel_rfl) (by kernel_rfl) (by kernel_rfl) (fun _ _ _ h => h) (Or.inl ⟨by rfl, fun w hSw => by obtain ⟨p0, -⟩ := row1 (brow hSw HRW.out.row); go_simp⟩) (by assumption) ?_
        try simp only [Act.put, List.setIfInBounds_toArray, List.set_cons_zero, List.set_cons_succ]
        refine wpAnyH_take (i := 5) (oi := ⟨some 27, .call ⟨.builtin .len, #[.tmp 26], #[149]⟩, 3, "routes.go:131", #[⟨4, .data⟩], none⟩) (v := .int .i64 (n : Nat)) rfl (by kernel_rfl) (by kernel_rfl) (by kernel_rfl) (fun _ _ _ h => h) (Or.inl ⟨by rfl, fun w hSw => by go_simp⟩) (by assumption) ?_
        try simp only [Act.put, List.setIfInBounds_toArray, List.set_cons_zero, List.set_cons_succ]
        refine wpAnyH_take (i := 6) (oi := ⟨some 28, .binOp .eql 3 (.tmp 22) (.tmp 27) 3, 4, "routes.go:131", #[⟨0, .data⟩, ⟨5, .data⟩], none⟩) (v := .bool true) rfl (by kernel_rfl) (by kernel_rfl) (by kernel_rfl) (fun _ _ _ h => h) (Or.inl ⟨by rfl, fun w hSw => by go_simp⟩) (by assumption) ?_
        try simp only [Act.put, List.setIfInBounds_toArray, List.set_cons_zero, List.set_cons_succ]
        refine wpAnyH_take (i := 7) (oi := ⟨some 29, .move (.tmp 28), 4, "routes.go:131", #[⟨6, .data⟩], none⟩) (v := .bool true) rfl (by kernel_rfl) (by kernel_rfl) (by kernel_rfl) (fun _ _ _ h => h) (Or.inl ⟨by rfl, fun w hSw => by go_simp⟩) (by assumption) ?_
        try simp only [Act.put, List.setIfInBounds_toArray, List.set_cons_zero, List.set_cons_succ]
        refine wpAnyH_take (i := 8) (oi := ⟨some 30, .move (.tmp 0), 90, "routes.go:131", #[⟨7, .guard⟩], some (7, false)⟩) (v := undef) rfl (by kernel_rfl) (by kernel_rfl) (by kernel_rfl) (fun _ _ _ h => h) (Or.inr ⟨by rfl, rfl⟩) (by assumption) ?_
        try simp only [Act.put, List.setIfInBounds_toArray, List.set_cons_zero, List.set_cons_succ]
        refine wpAnyH_take (i := 9) (oi := ⟨some 31, .nilCheck (.tmp 30), 0, "routes.go:131", #[⟨8, .data⟩, ⟨7, .guard⟩], some (7, false)⟩) (v := undef) rfl (by kernel_rfl) (by kernel_rfl) (by kernel_rfl) (fun _ _ _ h => h) (Or.inr ⟨by rfl, rfl⟩) (by assumption) ?_
        try simp only [Act.put, List.setIfInBounds_toArray, List.set_cons_zero, List.set_cons_succ]
        refine wpAnyH_take (i := 10) (oi := ⟨some 32, .fieldAddr 177 (.tmp 31) 0, 0, "routes.go:131", #[⟨9, .data⟩, ⟨7, .guard⟩], some (7, false)⟩) (v := undef) rfl (by kernel_rfl) (by kernel_rfl) (by kernel_rfl) (fun _ _ _ h => h) (Or.inr ⟨by rfl, rfl⟩) (by assumption) ?_
        try simp only [Act.put, List.setIfInBounds_toArray, List.set_cons_zero, List.set_cons_succ]
        refine wpAnyH_take (i := 11) (oi := ⟨some 33, .load 149 (.tmp 32), 149, "routes.go:131", #[⟨10, .data⟩, ⟨7, .guard⟩], some (7, false)⟩) (v := undef) rfl (by kernel_rfl) (by kernel_rfl) (by kernel_rfl) (fun _ _ _ h => h) (Or.inr ⟨by rfl, rfl⟩) (by assumption) ?_
        try simp only [Act.put, List.setIfInBounds_toArray, List.set_cons_zero, List.set_cons_succ]
        refine wpAnyH_take (i := 12) (oi := ⟨some 34, .move (.tmp 7), 3, "routes.go:131", #[⟨7, .guard⟩], some (7, false)⟩) (v := undef) rfl (by kernel_rfl) (by kernel_rfl) (by kernel_rfl) (fun _ _ _ h => h) (Or.inr ⟨by rfl, rfl⟩) (by assumption) ?_
        try simp only [Act.put, List.setIfInBounds_toArray, List.set_cons_zero, List.set_cons_succ]
        refine wpAnyH_take (i := 13) (oi := ⟨some 35, .indexAddr 149 (.tmp 33) (.tmp 34), 0, "routes.go:131", #[⟨11, .data⟩, ⟨12, .data⟩, ⟨7, .guard⟩], some (7, false)⟩) (v := undef) rfl (by kernel_rfl) (by kernel_rfl) (by kernel_rfl) (fun _ _ _ h => h) (Or.inr ⟨by rfl, rfl⟩) (by assumption) ?_
        try simp only [Act.put, List.setIfInBounds_toArray, List.set_cons_zero, List.set_cons_succ]
        refine wpAnyH_take (i := 14) (oi := ⟨some 36, .fieldAddr 173 (.tmp 35) 0, 0, "routes.go:131", #[⟨13, .data⟩, ⟨7, .guard⟩], some (7, false)⟩) (v := undef) rfl (by kernel_rfl) (by kernel_rfl) (by kernel_rfl) (fun _ _ _ h => h) (Or.inr ⟨by rfl, rfl⟩) (by assumption) ?_
        try simp only [Act.put, List.setIfInBounds_toArray, List.set_cons_zero, List.set_cons_succ]
        refine wpAnyH_take (i := 15) (oi := ⟨some 37, .load 30 (.tmp 36), 30, "routes.go:131", #[⟨14, .data⟩, ⟨7, .guard⟩], some (7, false)⟩) (v := undef) rfl (by kernel_rfl) (by kernel_rfl) (by kernel_rfl) (fun _ _ _ h => h) (Or.inr ⟨by rfl, rfl⟩) (by assumption) ?_
        try simp only [Act.put, List.setIfInBounds_toArray, List.set_cons_zero, List.set_cons_succ]
        refine wpAnyH_take (i := 16) (oi := ⟨some 38, .fieldAddr 173 (.tmp 6) 0, 0, "routes.go:131", #[⟨7, .guard⟩], some (7, false)⟩) (v := undef) rfl (by kernel_rfl) (by kernel_rfl) (by kernel_rfl) (fun _ _ _ h => h) (Or.inr ⟨by rfl, rfl⟩) (by assumption) ?_
        try simp only [Act.put, List.setIfInBounds_toArray, List.set_cons_zero, List.set_cons_succ]
        refine wpAnyH_take (i := 17) (oi := ⟨some 39, .load 30 (.tmp 38), 30, "routes.go:131", #[⟨16, .data⟩, ⟨7, .guard⟩], some (7, false)⟩) (v := undef) rfl (by kernel_rfl) (by kernel_rfl) (by kernel_rfl) (fun _ _ _ h => h) (Or.inr ⟨by rfl, rfl⟩) (by assumption) ?_
        try simp only [Act.put, List.setIfInBounds_toArray, List.set_cons_zero, List.set_cons_succ]
        refine wpAnyH_take (i := 18) (oi := ⟨some 40, .binOp .neq 30 (.tmp 37) (.tmp 39) 30, 4, "routes.go:131", #[⟨15, .data⟩, ⟨17, .data⟩, ⟨7, .guard⟩], some (7, false)⟩) (v := undef) rfl (by kernel_rfl) (by kernel_rfl) (by kernel_rfl) (fun _ _ _ h => h) (Or.inr ⟨by rfl, rfl⟩) (by assumption) ?_
        try simp only [Act.put, List.setIfInBounds_toArray, List.set_cons_zero, List.set_cons_succ]
        refine wpAnyH_take (i := 19) (oi := ⟨some 41, .pick (.tmp 29) (.const (.bool true)) (.tmp 40), 4, "routes.go:131", #[⟨7, .data⟩, ⟨18, .data⟩], none⟩) (v := .bool true) rfl (by kernel_rfl) (by kernel_rfl) (by kernel_rfl) (fun _ _ _ h => h) (Or.inl ⟨by rfl, fun w hSw => by go_simp⟩) (by assumption) ?_
        try simp only [Act.put, List.setIfInBounds_toArray, List.set_cons_zero, List.set_cons_succ]
        refine wpAnyH_done (by kernel_rfl) ?_ _
        try unfold NoPanic
        have HI2 := Lib.hid (HH.out.2.1 _ _ _ HI1.out hHeld)
        have HR2 := Lib.hid (HRW.out.kept hHeld)
        clear hHeld
        obtain ⟨q0, -⟩ := row1 HR2.out.row
        have hql2 := HR2.out.lt
        have hcall := HH.out.2.2.2.1 i0 (k + 1) wd gb c HVn.out HI2.out HG.out.1
        rw [← HK1.out] at hcall
        have hci : i0 ≤ k1 := by have := HK1.out; omega
        have hcc : k1 ≤ c := by have := HK1.out; omega
        go_wp2_with (go_at_fn g; refine hcall.mono ?_; rintro en w' ⟨rfl, hI'⟩; have HI3 := Lib.hid hI'; clear hI')
        go_roundw
        case rel => exact ⟨k1, rfl, k1, by omega, rfl, HI3.out, HK1.out ▸ HG.out.2⟩
        case measure => have := HK1.out; simp [intOf]; omega
      · have hk1l : k + 1 < L.length := by have := HH.out.1; omega
        have hee : ((k1 : Int) == (n : Int)) = false := by have := HK1.out; simp; omega
        have hk1n : (k1 : Int) < (n : Int) := by have := HK1.out; omega
        obtain ⟨e1, he1⟩ : ∃ e1, e1 = L[k + 1] := ⟨_, rfl⟩
        have HE1 : Hid (EAt wr gb (k1 * 7) e1) := Lib.hid (by rw [HK1.out, he1]; exact HEV.out _ hk1l)
        have HGG := Lib.hid (fun (h : ¬ samep e1 e) => HI.out.2.grp hkl (Or.inr ⟨hk1l, by rw [← he1, ← HE.out]; exact h⟩))
        have HGO := Lib.hid (fun (h : samep e1 e) => HI.out.2.go hk1l (by rw [← he1, ← HE.out]; exact h))
        clear he1
        by_cases ha : e1.a = e.a
        · by_cases hm : e1.n = e.n
          · have HG2 := Lib.hid (HGO.out ⟨ha, hm⟩)
            have HBX2 : Hid (wr.heap[zb]? = some (.cells #[.int .u32 (e1.a : Int), .int .u8 (e1.n : Int), .int .i64 (e.b : Int), .int .i64 (e.d : Int), .int .u16 (e.s : Int), .int .u16 (e.m : Int), .int .u64 (e.u : Int)] 173 (0, 0))) := Lib.hid (by rw [ha, hm]; exact HBX.out)
            clear HGG HGO ha hm HBX
            have HBX := HBX2
            clear HBX2
            refine wp_region_noPanic ?_
            refine wp_region_held_drew (S := fun y : World => Below wr.heap.size wr y) (by kernel_rfl) ((Below.refl _ _).drew) (fun hHeld => ?_)
            generalize wr.drew = wd at *
            refine wpAnyH_take (i := 0) (oi := ⟨some 22, .move (.tmp 7), 3, "routes.go:131", #[], none⟩) (v := .int .i64 (k1 : Int)) rfl (by kernel_rfl) (by kernel_rfl) (by kernel_rfl) (fun _ _ _ h => h) (Or.inl ⟨by rfl, fun w hSw => by go_simp⟩) (by assumption) ?_
            try simp only [Act.put, List.setIfInBounds_toArray, List.set_cons_zero, List.set_cons_succ]
            refine wpAnyH_take (i := 1) (oi := ⟨some 23, .move (.tmp 0), 90, "routes.go:131", #[], none⟩) (v := .pointer (some ⟨q, 0, none⟩)) rfl (by kernel_rfl) (by kernel_rfl) (by kernel_rfl) (fun _ _ _ h => h) (Or.inl ⟨by rfl, fun w hSw => by go_simp⟩) (by assumption) ?_
            try simp only [Act.put, List.setIfInBounds_toArray, List.set_cons_zero, List.set_cons_succ]
            refine wpAnyH_take (i := 2) (oi := ⟨some 24, .nilCheck (.tmp 23), 0, "routes.go:131", #[⟨1, .data⟩], none⟩) (v := .pointer (some ⟨q, 0, none⟩)) rfl (by kernel_rfl) (by kernel_rfl) (by kernel_rfl) (fun _ _ _ h => h) (Or.inl ⟨by rfl, fun w hSw => by go_simp⟩) (by assumption) ?_
            try simp only [Act.put, List.setIfInBounds_toArray, List.set_cons_zero, List.set_cons_succ]
            refine wpAnyH_take (i := 3) (oi := ⟨some 25, .fieldAddr 177 (.tmp 24) 0, 0, "routes.go:131", #[⟨2, .data⟩], none⟩) (v := .pointer (some ⟨q, 0, none⟩)) rfl (by kernel_rfl) (by kernel_rfl) (by kernel_rfl) (fun _ _ _ h => h) (Or.inl ⟨by rfl, fun w hSw => by go_simp⟩) (by assumption) ?_
            try simp only [Act.put, List.setIfInBounds_toArray, List.set_cons_zero, List.set_cons_succ]
            refine wpAnyH_take (i := 4) (oi := ⟨some 26, .load 149 (.tmp 25), 149, "routes.go:131", #[⟨3, .data⟩], none⟩) (v := .slice (some ⟨gb, 0, none⟩) n c) rfl (by kernel_rfl) (by kernel_rfl) (by kernel_rfl) (fun _ _ _ h => h) (Or.inl ⟨by rfl, fun w hSw => by obtain ⟨p0, -⟩ := row1 (brow hSw HRW.out.row); go_simp⟩) (by assumption) ?_
            try simp only [Act.put, List.setIfInBounds_toArray, List.set_cons_zero, List.set_cons_succ]
            refine wpAnyH_take (i := 5) (oi := ⟨some 27, .call ⟨.builtin .len, #[.tmp 26], #[149]⟩, 3, "routes.go:131", #[⟨4, .data⟩], none⟩) (v := .int .i64 (n : Nat)) rfl (by kernel_rfl) (by kernel_rfl) (by kernel_rfl) (fun _ _ _ h => h) (Or.inl ⟨by rfl, fun w hSw => by go_simp⟩) (by assumption) ?_
            try simp only [Act.put, List.setIfInBounds_toArray, List.set_cons_zero, List.set_cons_succ]
            refine wpAnyH_take (i := 6) (oi := ⟨some 28, .binOp .eql 3 (.tmp 22) (.tmp 27) 3, 4, "routes.go:131", #[⟨0, .data⟩, ⟨5, .data⟩], none⟩) (v := .bool false) rfl (by kernel_rfl) (by kernel_rfl) (by kernel_rfl) (fun _ _ _ h => h) (Or.inl ⟨by rfl, fun w hSw => by go_simp⟩) (by assumption) ?_
            try simp only [Act.put, List.setIfInBounds_toArray, List.set_cons_zero, List.set_cons_succ]
            refine wpAnyH_take (i := 7) (oi := ⟨some 29, .move (.tmp 28), 4, "routes.go:131", #[⟨6, .data⟩], none⟩) (v := .bool false) rfl (by kernel_rfl) (by kernel_rfl) (by kernel_rfl) (fun _ _ _ h => h) (Or.inl ⟨by rfl, fun w hSw => by go_simp⟩) (by assumption) ?_
            try simp only [Act.put, List.setIfInBounds_toArray, List.set_cons_zero, List.set_cons_succ]
            refine wpAnyH_take (i := 8) (oi := ⟨some 30, .move (.tmp 0), 90, "routes.go:131", #[⟨7, .guard⟩], some (7, false)⟩) (v := .pointer (some ⟨q, 0, none⟩)) rfl (by kernel_rfl) (by kernel_rfl) (by kernel_rfl) (fun _ _ _ h => h) (Or.inl ⟨by rfl, fun w hSw => by go_simp⟩) (by assumption) ?_
            try simp only [Act.put, List.setIfInBounds_toArray, List.set_cons_zero, List.set_cons_succ]
            refine wpAnyH_take (i := 9) (oi := ⟨some 31, .nilCheck (.tmp 30), 0, "routes.go:131", #[⟨8, .data⟩, ⟨7, .guard⟩], some (7, false)⟩) (v := .pointer (some ⟨q, 0, none⟩)) rfl (by kernel_rfl) (by kernel_rfl) (by kernel_rfl) (fun _ _ _ h => h) (Or.inl ⟨by rfl, fun w hSw => by go_simp⟩) (by assumption) ?_
            try simp only [Act.put, List.setIfInBounds_toArray, List.set_cons_zero, List.set_cons_succ]
            refine wpAnyH_take (i := 10) (oi := ⟨some 32, .fieldAddr 177 (.tmp 31) 0, 0, "routes.go:131", #[⟨9, .data⟩, ⟨7, .guard⟩], some (7, false)⟩) (v := .pointer (some ⟨q, 0, none⟩)) rfl (by kernel_rfl) (by kernel_rfl) (by kernel_rfl) (fun _ _ _ h => h) (Or.inl ⟨by rfl, fun w hSw => by go_simp⟩) (by assumption) ?_
            try simp only [Act.put, List.setIfInBounds_toArray, List.set_cons_zero, List.set_cons_succ]
            refine wpAnyH_take (i := 11) (oi := ⟨some 33, .load 149 (.tmp 32), 149, "routes.go:131", #[⟨10, .data⟩, ⟨7, .guard⟩], some (7, false)⟩) (v := .slice (some ⟨gb, 0, none⟩) n c) rfl (by kernel_rfl) (by kernel_rfl) (by kernel_rfl) (fun _ _ _ h => h) (Or.inl ⟨by rfl, fun w hSw => by obtain ⟨p0, -⟩ := row1 (brow hSw HRW.out.row); go_simp⟩) (by assumption) ?_
            try simp only [Act.put, List.setIfInBounds_toArray, List.set_cons_zero, List.set_cons_succ]
            refine wpAnyH_take (i := 12) (oi := ⟨some 34, .move (.tmp 7), 3, "routes.go:131", #[⟨7, .guard⟩], some (7, false)⟩) (v := .int .i64 (k1 : Int)) rfl (by kernel_rfl) (by kernel_rfl) (by kernel_rfl) (fun _ _ _ h => h) (Or.inl ⟨by rfl, fun w hSw => by go_simp⟩) (by assumption) ?_
            try simp only [Act.put, List.setIfInBounds_toArray, List.set_cons_zero, List.set_cons_succ]
            refine wpAnyH_take (i := 13) (oi := ⟨some 35, .indexAddr 149 (.tmp 33) (.tmp 34), 0, "routes.go:131", #[⟨11, .data⟩, ⟨12, .data⟩, ⟨7, .guard⟩], some (7, false)⟩) (v := .pointer (some ⟨gb, k1 * 7, none⟩)) rfl (by kernel_rfl) (by kernel_rfl) (by kernel_rfl) (fun _ _ _ h => h) (Or.inl ⟨by rfl, fun w hSw => by go_simp⟩) (by assumption) ?_
            try simp only [Act.put, List.setIfInBounds_toArray, List.set_cons_zero, List.set_cons_succ]
            refine wpAnyH_take (i := 14) (oi := ⟨some 36, .fieldAddr 173 (.tmp 35) 0, 0, "routes.go:131", #[⟨13, .data⟩, ⟨7, .guard⟩], some (7, false)⟩) (v := .pointer (some ⟨gb, k1 * 7, none⟩)) rfl (by kernel_rfl) (by kernel_rfl) (by kernel_rfl) (fun _ _ _ h => h) (Or.inl ⟨by rfl, fun w hSw => by go_simp⟩) (by assumption) ?_
            try simp only [Act.put, List.setIfInBounds_toArray, List.set_cons_zero, List.set_cons_succ]
            refine wpAnyH_take (i := 15) (oi := ⟨some 37, .load 30 (.tmp 36), 30, "routes.go:131", #[⟨14, .data⟩, ⟨7, .guard⟩], some (7, false)⟩) (v := .agg #[.int .u32 (e1.a : Int), .int .u8 (e1.n : Int)]) rfl (by kernel_rfl) (by kernel_rfl) (by kernel_rfl) (fun _ _ _ h => h) (Or.inl ⟨by rfl, fun w hSw => by obtain ⟨k0, k1, k2, k3, k4, k5, k6⟩ := HE1.out.keep (hSw.block gb HGB.out); go_simp⟩) (by assumption) ?_
            try simp only [Act.put, List.setIfInBounds_toArray, List.set_cons_zero, List.set_cons_succ]
            refine wpAnyH_take (i := 16) (oi := ⟨some 38, .fieldAddr 173 (.tmp 6) 0, 0, "routes.go:131", #[⟨7, .guard⟩], some (7, false)⟩) (v := .pointer (some ⟨zb, 0, none⟩)) rfl (by kernel_rfl) (by kernel_rfl) (by kernel_rfl) (fun _ _ _ h => h) (Or.inl ⟨by rfl, fun w hSw => by go_simp⟩) (by assumption) ?_
            try simp only [Act.put, List.setIfInBounds_toArray, List.set_cons_zero, List.set_cons_succ]
            refine wpAnyH_take (i := 17) (oi := ⟨some 39, .load 30 (.tmp 38), 30, "routes.go:131", #[⟨16, .data⟩, ⟨7, .guard⟩], some (7, false)⟩) (v := .agg #[.int .u32 (e1.a : Int), .int .u8 (e1.n : Int)]) rfl (by kernel_rfl) (by kernel_rfl) (by kernel_rfl) (fun _ _ _ h => h) (Or.inl ⟨by rfl, fun w hSw => by obtain ⟨p0, p1, p2, p3, p4, p5, p6⟩ := row7 (brow hSw HBX.out); go_simp⟩) (by assumption) ?_
            try simp only [Act.put, List.setIfInBounds_toArray, List.set_cons_zero, List.set_cons_succ]
            refine wpAnyH_take (i := 18) (oi := ⟨some 40, .binOp .neq 30 (.tmp 37) (.tmp 39) 30, 4, "routes.go:131", #[⟨15, .data⟩, ⟨17, .data⟩, ⟨7, .guard⟩], some (7, false)⟩) (v := .bool false) rfl (by kernel_rfl) (by kernel_rfl) (by kernel_rfl) (fun _ _ _ h => h) (Or.inl ⟨by rfl, fun w hSw => by go_simp⟩) (by assumption) ?_
            try simp only [Act.put, List.setIfInBounds_toArray, List.set_cons_zero, List.set_cons_succ]
            refine wpAnyH_take (i := 19) (oi := ⟨some 41, .pick (.tmp 29) (.const (.bool true)) (.tmp 40), 4, "routes.go:131", #[⟨7, .data⟩, ⟨18, .data⟩], none⟩) (v := .bool false) rfl (by kernel_rfl) (by kernel_rfl) (by kernel_rfl) (fun _ _ _ h => h) (Or.inl ⟨by rfl, fun w hSw => by go_simp⟩) (by assumption) ?_
            try simp only [Act.put, List.setIfInBounds_toArray, List.set_cons_zero, List.set_cons_succ]
            refine wpAnyH_done (by kernel_rfl) ?_ _
            try unfold NoPanic
            have HI2 := Lib.hid (HH.out.2.1 _ _ _ HI1.out hHeld)
            clear hHeld
            go_wp2
            go_roundw
            case rel => exact ⟨i0, rfl, k1, by omega, rfl, HI2.out, HK1.out ▸ HG2.out⟩
            case measure => have := HK1.out; simp [intOf]; omega
          · have HG := Lib.hid (HGG.out fun h => hm h.2)
            have HBX2 : Hid (wr.heap[zb]? = some (.cells #[.int .u32 (e1.a : Int), .int .u8 (e.n : Int), .int .i64 (e.b : Int), .int .i64 (e.d : Int), .int .u16 (e.s : Int), .int .u16 (e.m : Int), .int .u64 (e.u : Int)] 173 (0, 0))) := Lib.hid (by rw [ha]; exact HBX.out)
            have hm2 : ¬ (e1.n : Int) = (e.n : Int) := by omega
            clear HGG HGO ha hm HBX
            have HBX := HBX2
            clear HBX2
            refine wp_region_noPanic ?_
            refine wp_region_held_drew (S := fun y : World => Below wr.heap.size wr y) (by kernel_rfl) ((Below.refl _ _).drew) (fun hHeld => ?_)
            generalize wr.drew = wd at *
            refine wpAnyH_take (i := 0) (oi := ⟨some 22, .move (.tmp 7), 3, "routes.go:131", #[], none⟩) (v := .int .i64 (k1 : Int)) rfl (by kernel_rfl) (by kernel_rfl) (by kernel_rfl) (fun _ _ _ h => h) (Or.inl ⟨by rfl, fun w hSw => by go_simp⟩) (by assumption) ?_
            try simp only [Act.put, List.setIfInBounds_toArray, List.set_cons_zero, List.set_cons_succ]
            refine wpAnyH_take (i := 1) (oi := ⟨some 23, .move (.tmp 0), 90, "routes.go:131", #[], none⟩) (v := .pointer (some ⟨q, 0, none⟩)) rfl (by kernel_rfl) (by kernel_rfl) (by kernel_rfl) (fun _ _ _ h => h) (Or.inl ⟨by rfl, fun w hSw => by go_simp⟩) (by assumption) ?_
            try simp only [Act.put, List.setIfInBounds_toArray, List.set_cons_zero, List.set_cons_succ]
            refine wpAnyH_take (i := 2) (oi := ⟨some 24, .nilCheck (.tmp 23), 0, "routes.go:131", #[⟨1, .data⟩], none⟩) (v := .pointer (some ⟨q, 0, none⟩)) rfl (by kernel_rfl) (by kernel_rfl) (by kernel_rfl) (fun _ _ _ h => h) (Or.inl ⟨by rfl, fun w hSw => by go_simp⟩) (by assumption) ?_
            try simp only [Act.put, List.setIfInBounds_toArray, List.set_cons_zero, List.set_cons_succ]
            refine wpAnyH_take (i := 3) (oi := ⟨some 25, .fieldAddr 177 (.tmp 24) 0, 0, "routes.go:131", #[⟨2, .data⟩], none⟩) (v := .pointer (some ⟨q, 0, none⟩)) rfl (by kernel_rfl) (by kernel_rfl) (by kernel_rfl) (fun _ _ _ h => h) (Or.inl ⟨by rfl, fun w hSw => by go_simp⟩) (by assumption) ?_
            try simp only [Act.put, List.setIfInBounds_toArray, List.set_cons_zero, List.set_cons_succ]
            refine wpAnyH_take (i := 4) (oi := ⟨some 26, .load 149 (.tmp 25), 149, "routes.go:131", #[⟨3, .data⟩], none⟩) (v := .slice (some ⟨gb, 0, none⟩) n c) rfl (by kernel_rfl) (by kernel_rfl) (by kernel_rfl) (fun _ _ _ h => h) (Or.inl ⟨by rfl, fun w hSw => by obtain ⟨p0, -⟩ := row1 (brow hSw HRW.out.row); go_simp⟩) (by assumption) ?_
            try simp only [Act.put, List.setIfInBounds_toArray, List.set_cons_zero, List.set_cons_succ]
            refine wpAnyH_take (i := 5) (oi := ⟨some 27, .call ⟨.builtin .len, #[.tmp 26], #[149]⟩, 3, "routes.go:131", #[⟨4, .data⟩], none⟩) (v := .int .i64 (n : Nat)) rfl (by kernel_rfl) (by kernel_rfl) (by kernel_rfl) (fun _ _ _ h => h) (Or.inl ⟨by rfl, fun w hSw => by go_simp⟩) (by assumption) ?_
            try simp only [Act.put, List.setIfInBounds_toArray, List.set_cons_zero, List.set_cons_succ]
            refine wpAnyH_take (i := 6) (oi := ⟨some 28, .binOp .eql 3 (.tmp 22) (.tmp 27) 3, 4, "routes.go:131", #[⟨0, .data⟩, ⟨5, .data⟩], none⟩) (v := .bool false) rfl (by kernel_rfl) (by kernel_rfl) (by kernel_rfl) (fun _ _ _ h => h) (Or.inl ⟨by rfl, fun w hSw => by go_simp⟩) (by assumption) ?_
            try simp only [Act.put, List.setIfInBounds_toArray, List.set_cons_zero, List.set_cons_succ]
            refine wpAnyH_take (i := 7) (oi := ⟨some 29, .move (.tmp 28), 4, "routes.go:131", #[⟨6, .data⟩], none⟩) (v := .bool false) rfl (by kernel_rfl) (by kernel_rfl) (by kernel_rfl) (fun _ _ _ h => h) (Or.inl ⟨by rfl, fun w hSw => by go_simp⟩) (by assumption) ?_
            try simp only [Act.put, List.setIfInBounds_toArray, List.set_cons_zero, List.set_cons_succ]
            refine wpAnyH_take (i := 8) (oi := ⟨some 30, .move (.tmp 0), 90, "routes.go:131", #[⟨7, .guard⟩], some (7, false)⟩) (v := .pointer (some ⟨q, 0, none⟩)) rfl (by kernel_rfl) (by kernel_rfl) (by kernel_rfl) (fun _ _ _ h => h) (Or.inl ⟨by rfl, fun w hSw => by go_simp⟩) (by assumption) ?_
            try simp only [Act.put, List.setIfInBounds_toArray, List.set_cons_zero, List.set_cons_succ]
            refine wpAnyH_take (i := 9) (oi := ⟨some 31, .nilCheck (.tmp 30), 0, "routes.go:131", #[⟨8, .data⟩, ⟨7, .guard⟩], some (7, false)⟩) (v := .pointer (some ⟨q, 0, none⟩)) rfl (by kernel_rfl) (by kernel_rfl) (by kernel_rfl) (fun _ _ _ h => h) (Or.inl ⟨by rfl, fun w hSw => by go_simp⟩) (by assumption) ?_
            try simp only [Act.put, List.setIfInBounds_toArray, List.set_cons_zero, List.set_cons_succ]
            refine wpAnyH_take (i := 10) (oi := ⟨some 32, .fieldAddr 177 (.tmp 31) 0, 0, "routes.go:131", #[⟨9, .data⟩, ⟨7, .guard⟩], some (7, false)⟩) (v := .pointer (some ⟨q, 0, none⟩)) rfl (by kernel_rfl) (by kernel_rfl) (by kernel_rfl) (fun _ _ _ h => h) (Or.inl ⟨by rfl, fun w hSw => by go_simp⟩) (by assumption) ?_
            try simp only [Act.put, List.setIfInBounds_toArray, List.set_cons_zero, List.set_cons_succ]
            refine wpAnyH_take (i := 11) (oi := ⟨some 33, .load 149 (.tmp 32), 149, "routes.go:131", #[⟨10, .data⟩, ⟨7, .guard⟩], some (7, false)⟩) (v := .slice (some ⟨gb, 0, none⟩) n c) rfl (by kernel_rfl) (by kernel_rfl) (by kernel_rfl) (fun _ _ _ h => h) (Or.inl ⟨by rfl, fun w hSw => by obtain ⟨p0, -⟩ := row1 (brow hSw HRW.out.row); go_simp⟩) (by assumption) ?_
            try simp only [Act.put, List.setIfInBounds_toArray, List.set_cons_zero, List.set_cons_succ]
            refine wpAnyH_take (i := 12) (oi := ⟨some 34, .move (.tmp 7), 3, "routes.go:131", #[⟨7, .guard⟩], some (7, false)⟩) (v := .int .i64 (k1 : Int)) rfl (by kernel_rfl) (by kernel_rfl) (by kernel_rfl) (fun _ _ _ h => h) (Or.inl ⟨by rfl, fun w hSw => by go_simp⟩) (by assumption) ?_
            try simp only [Act.put, List.setIfInBounds_toArray, List.set_cons_zero, List.set_cons_succ]
            refine wpAnyH_take (i := 13) (oi := ⟨some 35, .indexAddr 149 (.tmp 33) (.tmp 34), 0, "routes.go:131", #[⟨11, .data⟩, ⟨12, .data⟩, ⟨7, .guard⟩], some (7, false)⟩) (v := .pointer (some ⟨gb, k1 * 7, none⟩)) rfl (by kernel_rfl) (by kernel_rfl) (by kernel_rfl) (fun _ _ _ h => h) (Or.inl ⟨by rfl, fun w hSw => by go_simp⟩) (by assumption) ?_
            try simp only [Act.put, List.setIfInBounds_toArray, List.set_cons_zero, List.set_cons_succ]
            refine wpAnyH_take (i := 14) (oi := ⟨some 36, .fieldAddr 173 (.tmp 35) 0, 0, "routes.go:131", #[⟨13, .data⟩, ⟨7, .guard⟩], some (7, false)⟩) (v := .pointer (some ⟨gb, k1 * 7, none⟩)) rfl (by kernel_rfl) (by kernel_rfl) (by kernel_rfl) (fun _ _ _ h => h) (Or.inl ⟨by rfl, fun w hSw => by go_simp⟩) (by assumption) ?_
            try simp only [Act.put, List.setIfInBounds_toArray, List.set_cons_zero, List.set_cons_succ]
            refine wpAnyH_take (i := 15) (oi := ⟨some 37, .load 30 (.tmp 36), 30, "routes.go:131", #[⟨14, .data⟩, ⟨7, .guard⟩], some (7, false)⟩) (v := .agg #[.int .u32 (e1.a : Int), .int .u8 (e1.n : Int)]) rfl (by kernel_rfl) (by kernel_rfl) (by kernel_rfl) (fun _ _ _ h => h) (Or.inl ⟨by rfl, fun w hSw => by obtain ⟨k0, k1, k2, k3, k4, k5, k6⟩ := HE1.out.keep (hSw.block gb HGB.out); go_simp⟩) (by assumption) ?_
            try simp only [Act.put, List.setIfInBounds_toArray, List.set_cons_zero, List.set_cons_succ]
            refine wpAnyH_take (i := 16) (oi := ⟨some 38, .fieldAddr 173 (.tmp 6) 0, 0, "routes.go:131", #[⟨7, .guard⟩], some (7, false)⟩) (v := .pointer (some ⟨zb, 0, none⟩)) rfl (by kernel_rfl) (by kernel_rfl) (by kernel_rfl) (fun _ _ _ h => h) (Or.inl ⟨by rfl, fun w hSw => by go_simp⟩) (by assumption) ?_
            try simp only [Act.put, List.setIfInBounds_toArray, List.set_cons_zero, List.set_cons_succ]
            refine wpAnyH_take (i := 17) (oi := ⟨some 39, .load 30 (.tmp 38), 30, "routes.go:131", #[⟨16, .data⟩, ⟨7, .guard⟩], some (7, false)⟩) (v := .agg #[.int .u32 (e1.a : Int), .int .u8 (e.n : Int)]) rfl (by kernel_rfl) (by kernel_rfl) (by kernel_rfl) (fun _ _ _ h => h) (Or.inl ⟨by rfl, fun w hSw => by obtain ⟨p0, p1, p2, p3, p4, p5, p6⟩ := row7 (brow hSw HBX.out); go_simp⟩) (by assumption) ?_
            try simp only [Act.put, List.setIfInBounds_toArray, List.set_cons_zero, List.set_cons_succ]
            refine wpAnyH_take (i := 18) (oi := ⟨some 40, .binOp .neq 30 (.tmp 37) (.tmp 39) 30, 4, "routes.go:131", #[⟨15, .data⟩, ⟨17, .data⟩, ⟨7, .guard⟩], some (7, false)⟩) (v := .bool true) rfl (by kernel_rfl) (by kernel_rfl) (by kernel_rfl) (fun _ _ _ h => h) (Or.inl ⟨by rfl, fun w hSw => by go_simp⟩) (by assumption) ?_
            try simp only [Act.put, List.setIfInBounds_toArray, List.set_cons_zero, List.set_cons_succ]
            refine wpAnyH_take (i := 19) (oi := ⟨some 41, .pick (.tmp 29) (.const (.bool true)) (.tmp 40), 4, "routes.go:131", #[⟨7, .data⟩, ⟨18, .data⟩], none⟩) (v := .bool true) rfl (by kernel_rfl) (by kernel_rfl) (by kernel_rfl) (fun _ _ _ h => h) (Or.inl ⟨by rfl, fun w hSw => by go_simp⟩) (by assumption) ?_
            try simp only [Act.put, List.setIfInBounds_toArray, List.set_cons_zero, List.set_cons_succ]
            refine wpAnyH_done (by kernel_rfl) ?_ _
            try unfold NoPanic
            have HI2 := Lib.hid (HH.out.2.1 _ _ _ HI1.out hHeld)
            have HR2 := Lib.hid (HRW.out.kept hHeld)
            clear hHeld
            obtain ⟨q0, -⟩ := row1 HR2.out.row
            have hql2 := HR2.out.lt
            have hcall := HH.out.2.2.2.1 i0 (k + 1) wd gb c HVn.out HI2.out HG.out.1
            rw [← HK1.out] at hcall
            have hci : i0 ≤ k1 := by have := HK1.out; omega
            have hcc : k1 ≤ c := by have := HK1.out; omega
            go_wp2_with (go_at_fn g; refine hcall.mono ?_; rintro en w' ⟨rfl, hI'⟩; have HI3 := Lib.hid hI'; clear hI')
            go_roundw
            case rel => exact ⟨k1, rfl, k1, by omega, rfl, HI3.out, HK1.out ▸ HG.out.2⟩
            case measure => have := HK1.out; simp [intOf]; omega
        · have HG := Lib.hid (HGG.out fun h => ha h.1)
          have ha2 : ¬ (e1.a : Int) = (e.a : Int) := by omega
          clear HGG HGO ha
          refine wp_region_noPanic ?_
          refine wp_region_held_drew (S := fun y : World => Below wr.heap.size wr y) (by kernel_rfl) ((Below.refl _ _).drew) (fun hHeld => ?_)
          generalize wr.drew = wd at *
          refine wpAnyH_take (i := 0) (oi := ⟨some 22, .move (.tmp 7), 3, "routes.go:131", #[], none⟩) (v := .int .i64 (k1 : Int)) rfl (by kernel_rfl) (by kernel_rfl) (by kernel_rfl) (fun _ _ _ h => h) (Or.inl ⟨by rfl, fun w hSw => by go_simp⟩) (by assumption) ?_
          try simp only [Act.put, List.setIfInBounds_toArray, List.set_cons_zero, List.set_cons_succ]
          refine wpAnyH_take (i := 1) (oi := ⟨some 23, .move (.tmp 0), 90, "routes.go:131", #[], none⟩) (v := .pointer (some ⟨q, 0, none⟩)) rfl (by kernel_rfl) (by kernel_rfl) (by kernel_rfl) (fun _ _ _ h => h) (Or.inl ⟨by rfl, fun w hSw => by go_simp⟩) (by assumption) ?_
          try simp only [Act.put, List.setIfInBounds_toArray, List.set_cons_zero, List.set_cons_succ]
          refine wpAnyH_take (i := 2) (oi := ⟨some 24, .nilCheck (.tmp 23), 0, "routes.go:131", #[⟨1, .data⟩], none⟩) (v := .pointer (some ⟨q, 0, none⟩)) rfl (by kernel_rfl) (by kernel_rfl) (by kernel_rfl) (fun _ _ _ h => h) (Or.inl ⟨by rfl, fun w hSw => by go_simp⟩) (by assumption) ?_
          try simp only [Act.put, List.setIfInBounds_toArray, List.set_cons_zero, List.set_cons_succ]
          refine wpAnyH_take (i := 3) (oi := ⟨some 25, .fieldAddr 177 (.tmp 24) 0, 0, "routes.go:131", #[⟨2, .data⟩], none⟩) (v := .pointer (some ⟨q, 0, none⟩)) rfl (by kernel_rfl) (by kernel_rfl) (by kernel_rfl) (fun _ _ _ h => h) (Or.inl ⟨by rfl, fun w hSw => by go_simp⟩) (by assumption) ?_
          try simp only [Act.put, List.setIfInBounds_toArray, List.set_cons_zero, List.set_cons_succ]
          refine wpAnyH_take (i := 4) (oi := ⟨some 26, .load 149 (.tmp 25), 149, "routes.go:131", #[⟨3, .data⟩], none⟩) (v := .slice (some ⟨gb, 0, none⟩) n c) rfl (by kernel_rfl) (by kernel_rfl) (by kernel_rfl) (fun _ _ _ h => h) (Or.inl ⟨by rfl, fun w hSw => by obtain ⟨p0, -⟩ := row1 (brow hSw HRW.out.row); go_simp⟩) (by assumption) ?_
          try simp only [Act.put, List.setIfInBounds_toArray, List.set_cons_zero, List.set_cons_succ]
          refine wpAnyH_take (i := 5) (oi := ⟨some 27, .call ⟨.builtin .len, #[.tmp 26], #[149]⟩, 3, "routes.go:131", #[⟨4, .data⟩], none⟩) (v := .int .i64 (n : Nat)) rfl (by kernel_rfl) (by kernel_rfl) (by kernel_rfl) (fun _ _ _ h => h) (Or.inl ⟨by rfl, fun w hSw => by go_simp⟩) (by assumption) ?_
          try simp only [Act.put, List.setIfInBounds_toArray, List.set_cons_zero, List.set_cons_succ]
          refine wpAnyH_take (i := 6) (oi := ⟨some 28, .binOp .eql 3 (.tmp 22) (.tmp 27) 3, 4, "routes.go:131", #[⟨0, .data⟩, ⟨5, .data⟩], none⟩) (v := .bool false) rfl (by kernel_rfl) (by kernel_rfl) (by kernel_rfl) (fun _ _ _ h => h) (Or.inl ⟨by rfl, fun w hSw => by go_simp⟩) (by assumption) ?_
          try simp only [Act.put, List.setIfInBounds_toArray, List.set_cons_zero, List.set_cons_succ]
          refine wpAnyH_take (i := 7) (oi := ⟨some 29, .move (.tmp 28), 4, "routes.go:131", #[⟨6, .data⟩], none⟩) (v := .bool false) rfl (by kernel_rfl) (by kernel_rfl) (by kernel_rfl) (fun _ _ _ h => h) (Or.inl ⟨by rfl, fun w hSw => by go_simp⟩) (by assumption) ?_
          try simp only [Act.put, List.setIfInBounds_toArray, List.set_cons_zero, List.set_cons_succ]
          refine wpAnyH_take (i := 8) (oi := ⟨some 30, .move (.tmp 0), 90, "routes.go:131", #[⟨7, .guard⟩], some (7, false)⟩) (v := .pointer (some ⟨q, 0, none⟩)) rfl (by kernel_rfl) (by kernel_rfl) (by kernel_rfl) (fun _ _ _ h => h) (Or.inl ⟨by rfl, fun w hSw => by go_simp⟩) (by assumption) ?_
          try simp only [Act.put, List.setIfInBounds_toArray, List.set_cons_zero, List.set_cons_succ]
          refine wpAnyH_take (i := 9) (oi := ⟨some 31, .nilCheck (.tmp 30), 0, "routes.go:131", #[⟨8, .data⟩, ⟨7, .guard⟩], some (7, false)⟩) (v := .pointer (some ⟨q, 0, none⟩)) rfl (by kernel_rfl) (by kernel_rfl) (by kernel_rfl) (fun _ _ _ h => h) (Or.inl ⟨by rfl, fun w hSw => by go_simp⟩) (by assumption) ?_
          try simp only [Act.put, List.setIfInBounds_toArray, List.set_cons_zero, List.set_cons_succ]
          refine wpAnyH_take (i := 10) (oi := ⟨some 32, .fieldAddr 177 (.tmp 31) 0, 0, "routes.go:131", #[⟨9, .data⟩, ⟨7, .guard⟩], some (7, false)⟩) (v := .pointer (some ⟨q, 0, none⟩)) rfl (by kernel_rfl) (by kernel_rfl) (by kernel_rfl) (fun _ _ _ h => h) (Or.inl ⟨by rfl, fun w hSw => by go_simp⟩) (by assumption) ?_
          try simp only [Act.put, List.setIfInBounds_toArray, List.set_cons_zero, List.set_cons_succ]
          refine wpAnyH_take (i := 11) (oi := ⟨some 33, .load 149 (.tmp 32), 149, "routes.go:131", #[⟨10, .data⟩, ⟨7, .guard⟩], some (7, false)⟩) (v := .slice (some ⟨gb, 0, none⟩) n c) rfl (by kernel_rfl) (by kernel_rfl) (by kernel_rfl) (fun _ _ _ h => h) (Or.inl ⟨by rfl, fun w hSw => by obtain ⟨p0, -⟩ := row1 (brow hSw HRW.out.row); go_simp⟩) (by assumption) ?_
          try simp only [Act.put, List.setIfInBounds_toArray, List.set_cons_zero, List.set_cons_succ]
          refine wpAnyH_take (i := 12) (oi := ⟨some 34, .move (.tmp 7), 3, "routes.go:131", #[⟨7, .guard⟩], some (7, false)⟩) (v := .int .i64 (k1 : Int)) rfl (by kernel_rfl) (by kernel_rfl) (by kernel_rfl) (fun _ _ _ h => h) (Or.inl ⟨by rfl, fun w hSw => by go_simp⟩) (by assumption) ?_
          try simp only [Act.put, List.setIfInBounds_toArray, List.set_cons_zero, List.set_cons_succ]
          refine wpAnyH_take (i := 13) (oi := ⟨some 35, .indexAddr 149 (.tmp 33) (.tmp 34), 0, "routes.go:131", #[⟨11, .data⟩, ⟨12, .data⟩, ⟨7, .guard⟩], some (7, false)⟩) (v := .pointer (some ⟨gb, k1 * 7, none⟩)) rfl (by kernel_rfl) (by kernel_rfl) (by kernel_rfl) (fun _ _ _ h => h) (Or.inl ⟨by rfl, fun w hSw => by go_simp⟩) (by assumption) ?_
          try simp only [Act.put, List.setIfInBounds_toArray, List.set_cons_zero, List.set_cons_succ]
          refine wpAnyH_take (i := 14) (oi := ⟨some 36, .fieldAddr 173 (.tmp 35) 0, 0, "routes.go:131", #[⟨13, .data⟩, ⟨7, .guard⟩], some (7, false)⟩) (v := .pointer (some ⟨gb, k1 * 7, none⟩)) rfl (by kernel_rfl) (by kernel_rfl) (by kernel_rfl) (fun _ _ _ h => h) (Or.inl ⟨by rfl, fun w hSw => by go_simp⟩) (by assumption) ?_
          try simp only [Act.put, List.setIfInBounds_toArray, List.set_cons_zero, List.set_cons_succ]
          refine wpAnyH_take (i := 15) (oi := ⟨some 37, .load 30 (.tmp 36), 30, "routes.go:131", #[⟨14, .data⟩, ⟨7, .guard⟩], some (7, false)⟩) (v := .agg #[.int .u32 (e1.a : Int), .int .u8 (e1.n : Int)]) rfl (by kernel_rfl) (by kernel_rfl) (by kernel_rfl) (fun _ _ _ h => h) (Or.inl ⟨by rfl, fun w hSw => by obtain ⟨k0, k1, k2, k3, k4, k5, k6⟩ := HE1.out.keep (hSw.block gb HGB.out); go_simp⟩) (by assumption) ?_
          try simp only [Act.put, List.setIfInBounds_toArray, List.set_cons_zero, List.set_cons_succ]
          refine wpAnyH_take (i := 16) (oi := ⟨some 38, .fieldAddr 173 (.tmp 6) 0, 0, "routes.go:131", #[⟨7, .guard⟩], some (7, false)⟩) (v := .pointer (some ⟨zb, 0, none⟩)) rfl (by kernel_rfl) (by kernel_rfl) (by kernel_rfl) (fun _ _ _ h => h) (Or.inl ⟨by rfl, fun w hSw => by go_simp⟩) (by assumption) ?_
          try simp only [Act.put, List.setIfInBounds_toArray, List.set_cons_zero, List.set_cons_succ]
          refine wpAnyH_take (i := 17) (oi := ⟨some 39, .load 30 (.tmp 38), 30, "routes.go:131", #[⟨16, .data⟩, ⟨7, .guard⟩], some (7, false)⟩) (v := .agg #[.int .u32 (e.a : Int), .int .u8 (e.n : Int)]) rfl (by kernel_rfl) (by kernel_rfl) (by kernel_rfl) (fun _ _ _ h => h) (Or.inl ⟨by rfl, fun w hSw => by obtain ⟨p0, p1, p2, p3, p4, p5, p6⟩ := row7 (brow hSw HBX.out); go_simp⟩) (by assumption) ?_
          try simp only [Act.put, List.setIfInBounds_toArray, List.set_cons_zero, List.set_cons_succ]
          refine wpAnyH_take (i := 18) (oi := ⟨some 40, .binOp .neq 30 (.tmp 37) (.tmp 39) 30, 4, "routes.go:131", #[⟨15, .data⟩, ⟨17, .data⟩, ⟨7, .guard⟩], some (7, false)⟩) (v := .bool true) rfl (by kernel_rfl) (by kernel_rfl) (by kernel_rfl) (fun _ _ _ h => h) (Or.inl ⟨by rfl, fun w hSw => by go_simp⟩) (by assumption) ?_
          try simp only [Act.put, List.setIfInBounds_toArray, List.set_cons_zero, List.set_cons_succ]
          refine wpAnyH_take (i := 19) (oi := ⟨some 41, .pick (.tmp 29) (.const (.bool true)) (.tmp 40), 4, "routes.go:131", #[⟨7, .data⟩, ⟨18, .data⟩], none⟩) (v := .bool true) rfl (by kernel_rfl) (by kernel_rfl) (by kernel_rfl) (fun _ _ _ h => h) (Or.inl ⟨by rfl, fun w hSw => by go_simp⟩) (by assumption) ?_
          try simp only [Act.put, List.setIfInBounds_toArray, List.set_cons_zero, List.set_cons_succ]
          refine wpAnyH_done (by kernel_rfl) ?_ _
          try unfold NoPanic
          have HI2 := Lib.hid (HH.out.2.1 _ _ _ HI1.out hHeld)
          have HR2 := Lib.hid (HRW.out.kept hHeld)
          clear hHeld
          obtain ⟨q0, -⟩ := row1 HR2.out.row
          have hql2 := HR2.out.lt
          have hcall := HH.out.2.2.2.1 i0 (k + 1) wd gb c HVn.out HI2.out HG.out.1
          rw [← HK1.out] at hcall
          have hci : i0 ≤ k1 := by have := HK1.out; omega
          have hcc : k1 ≤ c := by have := HK1.out; omega
          go_wp2_with (go_at_fn g; refine hcall.mono ?_; rintro en w' ⟨rfl, hI'⟩; have HI3 := Lib.hid hI'; clear hI')
          go_roundw
          case rel => exact ⟨k1, rfl, k1, by omega, rfl, HI3.out, HK1.out ▸ HG.out.2⟩
          case measure => have := HK1.out; simp [intOf]; omega
    · obtain rfl : k = n := by omega
      have hfin := HI.out.2.fin HH.out.1
      have HF := Lib.hid (hfin ▸ HI.out.1)
      clear hfin
      go_wp2
      exact bodyPost_end (v := .tuple #[]) (by simp [results, Tryz.results89, go_sem]) rfl ⟨rfl, HF.out⟩
end Go.Proofs.YtjbogjbopgcbhaaGreatDoor.Rts
namespace Go.Proofs.YtjbogjbopgcbhaaGreatDoor.Rts
open Pre Ser
open Go.Proofs.YtjbogjbopgcbhaaGreatDoor.Src (row1 row2)
open Go.ChangeShapes Go.WideShapes Go.ChangeAt Go.RowKit
set_option maxRecDepth 8000
set_option linter.unusedVariables false
open Go.Proofs.YtjbogjbopgcbhaaGreatDoor.Src (Mk SrcAt)
structure CostAt (w : World) (A : Option Addr) (n : Nat) (cf : Nat → Nat) : Prop where
  at_ : ∀ k, k < n → ∃ b o, A = some ⟨b, o, none⟩ ∧ b < w.heap.size ∧ w.cell? ⟨b, o + k, none⟩ = some (.int .u16 (cf k : Int))
  out : ∀ k, n ≤ k → cf k = 65535
  le : ∀ k, cf k ≤ 65535
theorem CostAt.below {w w' : World} {A : Option Addr} {n : Nat} {cf : Nat → Nat} (h : CostAt w A n cf) (B : Below w.heap.size w w') : CostAt w' A n cf :=
  ⟨fun k hk => by
    obtain ⟨b, o, e, hb, hc⟩ := h.at_ k hk
    exact ⟨b, o, e, Nat.lt_of_lt_of_le hb B.size, (World.cell?_of_block (a := ⟨b, o + k, none⟩) (B.block b hb)).trans hc⟩, h.out, h.le⟩
theorem CostAt.fr {X : Nat → Prop} {w w' : World} {A : Option Addr} {n : Nat} {cf : Nat → Nat} (h : CostAt w A n cf) (F : Fr X w w') (hx : ∀ b o, A = some ⟨b, o, none⟩ → ¬ X b) : CostAt w' A n cf :=
  ⟨fun k hk => by
    obtain ⟨b, o, e, hb, hc⟩ := h.at_ k hk
    exact ⟨b, o, e, Nat.lt_of_lt_of_le hb F.size, (World.cell?_of_block (a := ⟨b, o + k, none⟩) (F.block b hb (hx b o e))).trans hc⟩, h.out, h.le⟩
theorem cost_any (w : World) (A : Option Addr) (n c : Nat) (cf : Nat → Nat) (h : CostAt w A n cf) (x : Nat) : Calls Tryz.prog 130 #[.slice A n c, .int .i64 (x : Int)] w fun e w' => e = .returned (.int .u16 (cf x : Int)) ∧ w = w' := by
  by_cases hx : x < n
  · obtain ⟨b, o, rfl, hb, hc⟩ := h.at_ x hx
    have hx1 : ¬ (n : Int) ≤ (x : Int) := by omega
    generalize cf x = y at *
    clear h
    go_enter Tryz.func130, Tryz.ntmps130
    go_wp2
    go_ret
    exact ⟨rfl, rfl⟩
  · rw [h.out x (by omega)]
    have hx1 : (n : Int) ≤ (x : Int) := by omega
    clear h hx
    go_enter Tryz.func130, Tryz.ntmps130
    go_wp2
    go_ret
    exact ⟨rfl, rfl⟩
def feasE (f : Mk) (e : E) : Bool := f.feas e.a e.n (e.s, e.m)
theorem feasp_any (w : World) (ls qs cs sb : Nat) (f : Mk) (hs : SrcAt ls w qs f cs) (hb : w.heap[sb]? = some (.cells #[.pointer (some ⟨qs, 0, none⟩)] 89 (0, 0))) (e : E) (he : e.Ok) :
    Calls Tryz.prog 131 #[.agg #[.int .u32 (e.a : Int), .int .u8 (e.n : Int), .int .i64 (e.b : Int), .int .i64 (e.d : Int), .int .u16 (e.s : Int), .int .u16 (e.m : Int), .int .u64 (e.u : Int)], .pointer (some ⟨sb, 0, none⟩)] w fun en w' => en = .returned (.bool (feasE f e)) ∧ Below w.heap.size w w' := by
  have B1 := (Below.refl w.heap.size w).alloc (Nat.le_refl _) (.cells #[.int .u32 (e.a : Int), .int .u8 (e.n : Int), .int .i64 (e.b : Int), .int .i64 (e.d : Int), .int .u16 (e.s : Int), .int .u16 (e.m : Int), .int .u64 (e.u : Int)] 173)
  have c20 := Src.feas_any _ qs f cs (hs.below B1) e.a e.n he.a he.n (e.s, e.m)
  unfold Src.pv Src.mv at c20
  simp only at c20
  have HC := Lib.hid (And.intro c20 B1)
  have hsl := (Array.getElem?_eq_some_iff.1 hb).1
  obtain ⟨s0, -⟩ := row1 hb
  unfold feasE
  generalize f.feas e.a e.n (e.s, e.m) = fe at *
  clear c20 B1 hs hb he
  go_enter Tryz.func131, Tryz.ntmps131
  go_wp2_with (go_at_call 132; (with_reducible refine HC.out.1.mono ?_); rintro en w3 ⟨rfl, B3⟩; have H3 := Lib.hid (HC.out.2.trans (B3.mono HC.out.2.size)); clear B3)
  go_ret
  exact ⟨rfl, H3.out⟩
theorem feasible_any (w : World) (qs : Nat) : Calls Tryz.prog 92 #[.pointer (some ⟨qs, 0, none⟩)] w fun e w' => e = .returned (.func (.func 131) #[] #[.pointer (some ⟨w.heap.size, 0, none⟩)]) ∧ w' = w.alloc (.cells #[.pointer (some ⟨qs, 0, none⟩)] 89) := by
  go_enter Tryz.func92, Tryz.ntmps92
  go_wp2
  go_ret
  exact ⟨rfl, rfl⟩
structure Ro where
  a : Nat
  n : Nat
  v : Nat
  m : Nat
  s : Nat
deriving DecidableEq
def Ro.zero : Ro := ⟨0, 0, 0, 0, 0⟩
def Ro.cl (r : Ro) : List Value := [.int .u32 (r.a : Int), .int .u8 (r.n : Int), .int .i64 (r.v : Int), .int .u16 (r.m : Int), .int .u16 (r.s : Int)]
def stp (cf : Nat → Nat) (f : Mk) (x : Nat × Ro) (e : E) : Nat × Ro := if e.m + cf e.b < x.1 ∧ feasE f e = true then (e.m + cf e.b, ⟨e.a, e.n, e.b, e.m + cf e.b, e.s⟩) else x
def short (cf : Nat → Nat) (f : Mk) (G : List E) : Nat × Ro := G.foldl (stp cf f) (65535, Ro.zero)
end Go.Proofs.YtjbogjbopgcbhaaGreatDoor.Rts
namespace Go.Proofs.YtjbogjbopgcbhaaGreatDoor.Rts
open Pre Ser
open Go.Proofs.YtjbogjbopgcbhaaGreatDoor.Src (row1 row2)
open Go.ChangeShapes Go.WideShapes Go.ChangeAt Go.RowKit
set_option maxRecDepth 8000
set_option linter.unusedVariables false
open Go.Proofs.YtjbogjbopgcbhaaGreatDoor.Src (Mk SrcAt)
theorem row5' {w : World} {b : Nat} {t : TypeId} {x0 x1 x2 x3 x4 : Value} (h : w.heap[b]? = some (.cells #[x0, x1, x2, x3, x4] t (0, 0))) : w.cell? ⟨b, 0, none⟩ = some x0 ∧ w.cell? ⟨b, 1, none⟩ = some x1 ∧ w.cell? ⟨b, 2, none⟩ = some x2 ∧ w.cell? ⟨b, 3, none⟩ = some x3 ∧ w.cell? ⟨b, 4, none⟩ = some x4 ∧ ∀ i, w.frozen? ⟨b, i, none⟩ = false :=
  ⟨cell_of_row w b 0 _ t (0, 0) h, cell_of_row w b 1 _ t (0, 0) h, cell_of_row w b 2 _ t (0, 0) h, cell_of_row w b 3 _ t (0, 0) h, cell_of_row w b 4 _ t (0, 0) h, fun i => frozen_of_row w b i _ t h⟩
theorem set5 {w : World} {b : Nat} {t : TypeId} {x0 x1 x2 x3 x4 : Value} (h : w.heap[b]? = some (.cells #[x0, x1, x2, x3, x4] t (0, 0))) (y0 y1 y2 y3 y4 : Value) : (((((w.setCell ⟨b, 0, none⟩ y0).setCell ⟨b, 1, none⟩ y1).setCell ⟨b, 2, none⟩ y2).setCell ⟨b, 3, none⟩ y3).setCell ⟨b, 4, none⟩ y4).heap[b]? = some (.cells #[y0, y1, y2, y3, y4] t (0, 0)) := by
  have h0 := heap_setCell_same w b 0 _ t y0 h
  have h1 := heap_setCell_same _ b 1 _ t y1 h0
  have h2 := heap_setCell_same _ b 2 _ t y2 h1
  have h3 := heap_setCell_same _ b 3 _ t y3 h2
  have h4 := heap_setCell_same _ b 4 _ t y4 h3
  simpa using h4
theorem grown5 (w : World) (b : Nat) (y0 y1 y2 y3 y4 : Value) : w.grownBy (((((w.setCell ⟨b, 0, none⟩ y0).setCell ⟨b, 1, none⟩ y1).setCell ⟨b, 2, none⟩ y2).setCell ⟨b, 3, none⟩ y3).setCell ⟨b, 4, none⟩ y4) (some b) :=
  ((((grown_setCell w b 0 y0).trans (grown_setCell _ b 1 y1)).trans (grown_setCell _ b 2 y2)).trans (grown_setCell _ b 3 y3)).trans (grown_setCell _ b 4 y4)
theorem stp_le {cf : Nat → Nat} {f : Mk} {x : Nat × Ro} {e : E} (h : x.1 ≤ 65535) : (stp cf f x e).1 ≤ 65535 := by
  unfold stp
  split
  · rename_i h1; have := h1.1; show e.m + cf e.b ≤ 65535; omega
  · exact h
set_option maxHeartbeats 4000000 in
theorem short_any (w : World) (A : Option Addr) (n c : Nat) (G : List E) (hn : n = G.length) (hlen : n ≤ 1000) (hsl : ESl w A G) (hG : ∀ e ∈ G, e.Ok) (Ac : Option Addr) (nc cc : Nat) (cf : Nat → Nat) (hco : CostAt w Ac nc cf) (ls qs cs sb : Nat) (f : Mk) (hs : SrcAt ls w qs f cs) (hb : w.heap[sb]? = some (.cells #[.pointer (some ⟨qs, 0, none⟩)] 89 (0, 0))) :
    Calls Tryz.prog 91 #[.slice A n c, .func (.func 131) #[] #[.pointer (some ⟨sb, 0, none⟩)], .slice Ac nc cc] w fun en w' => en = .returned (.tuple #[.agg #[.int .u32 ((short cf f G).2.a : Int), .int .u8 ((short cf f G).2.n : Int), .int .i64 ((short cf f G).2.v : Int), .int .u16 ((short cf f G).2.m : Int), .int .u16 ((short cf f G).2.s : Int)], .bool (decide ((short cf f G).1 < 65535))]) ∧ Below w.heap.size w w' := by
  have B1 := ((Below.refl w.heap.size w).alloc (Nat.le_refl _) (.cells #[.int .u32 0, .int .u8 0, .int .i64 0, .int .u16 0, .int .u16 0] 40)).alloc (by simp) (.cells #[.int .u32 0, .int .u8 0, .int .i64 0, .int .u16 0, .int .u16 0] 40)
  have r0 : ((w.alloc (.cells #[.int .u32 0, .int .u8 0, .int .i64 0, .int .u16 0, .int .u16 0] 40)).alloc (.cells #[.int .u32 0, .int .u8 0, .int .i64 0, .int .u16 0, .int .u16 0] 40)).heap[w.heap.size]? = some (.cells #[.int .u32 0, .int .u8 0, .int .i64 0, .int .u16 0, .int .u16 0] 40 (0, 0)) := (heap_alloc_old _ (.cells #[.int .u32 0, .int .u8 0, .int .i64 0, .int .u16 0, .int .u16 0] 40) (by simp)).trans (heap_alloc_new w (.cells #[.int .u32 0, .int .u8 0, .int .i64 0, .int .u16 0, .int .u16 0] 40))
  have r1 := Src.heap_new1 w (.cells #[.int .u32 0, .int .u8 0, .int .i64 0, .int .u16 0, .int .u16 0] 40) (.cells #[.int .u32 0, .int .u8 0, .int .i64 0, .int .u16 0, .int .u16 0] 40)
  have H0 := Lib.hid (And.intro B1 (And.intro r0 r1))
  have HH := Lib.hid (And.intro hn (And.intro hsl (And.intro hG (And.intro hs hb))))
  have HCO := Lib.hid hco
  clear B1 r0 r1 hn hsl hG hs hb hco
  go_enter Tryz.func91, Tryz.ntmps91
  go_wp2
  generalize (w.alloc _).alloc _ = w1 at *
  go_loopw [8, 15] (fun xv kv wr => ∃ x : Nat, xv = .int .i64 x ∧ ∃ k : Nat, k ≤ n ∧ kv = .int .i64 k ∧ ∃ r : Ro, Hid ((G.take k).foldl (stp cf f) (65535, Ro.zero) = (x, r) ∧ x ≤ 65535) ∧ Hid (Below w.heap.size w wr ∧ wr.heap[w.heap.size]? = some (.cells #[.int .u32 0, .int .u8 0, .int .i64 0, .int .u16 0, .int .u16 0] 40 (0, 0)) ∧ wr.heap[w.heap.size + 1]? = some (.cells #[.int .u32 (r.a : Int), .int .u8 (r.n : Int), .int .i64 (r.v : Int), .int .u16 (r.m : Int), .int .u16 (r.s : Int)] 40 (0, 0)))) (fun _ kv _ => n - (intOf kv).toNat)
  case atStart => exact ⟨65535, rfl, 0, Nat.zero_le _, rfl, Ro.zero, ⟨rfl, Nat.le_refl _⟩, H0.out⟩
  case round =>
    obtain ⟨x, rfl, k, hk, rfl, r, HA, HB⟩ := hrel
    clear H0
    by_cases hlt : k < n
    · have hkl : k < G.length := by rw [← HH.out.1]; exact hlt
      obtain ⟨b, o, rfl, hb, hE⟩ := (HH.out.2.1.below HB.out.1) k hkl
      have hst : (G.take (k + 1)).foldl (stp cf f) (65535, Ro.zero) = stp cf f (x, r) G[k] := by
        rw [List.take_succ_eq_append_getElem hkl, List.foldl_append, HA.out.1]; rfl
      have HST := Lib.hid hst
      have HEO := Lib.hid (HH.out.2.2.1 _ (List.getElem_mem hkl))
      generalize G[k] = e at hE HST HEO
      clear hst
      obtain ⟨k0, k1, k2, k3, k4, k5, k6⟩ := hE
      go_upto_region 6 with (fail)
      clear k0 k1 k2 k3 k4 k5 k6
      have hbx := heap_alloc_new wr (.cells #[.int .u32 (e.a : Int), .int .u8 (e.n : Int), .int .i64 (e.b : Int), .int .i64 (e.d : Int), .int .u16 (e.s : Int), .int .u16 (e.m : Int), .int .u64 (e.u : Int)] 173)
      have hB0 := (Below.refl wr.heap.size wr).alloc (Nat.le_refl _) (.cells #[.int .u32 (e.a : Int), .int .u8 (e.n : Int), .int .i64 (e.b : Int), .int .i64 (e.d : Int), .int .u16 (e.s : Int), .int .u16 (e.m : Int), .int .u64 (e.u : Int)] 173)
      have HBX := Lib.hid hbx
      replace HB := Lib.hid (And.intro (HB.out.1.trans (hB0.mono HB.out.1.size)) (And.intro (brow hB0 HB.out.2.1) (brow hB0 HB.out.2.2)))
      clear hbx hB0
      generalize wr.alloc _ = wb at *
      generalize wr.heap.size = zb at *
      generalize wb = wr at *
      obtain ⟨cb, hcb⟩ : ∃ cb, cb = cf e.b := ⟨_, rfl⟩
      have HCC : Hid (∀ W, Below wr.heap.size wr W → Calls Tryz.prog 130 #[.slice Ac nc cc, .int .i64 (e.b : Int)] W fun en w' => en = .returned (.int .u16 (cb : Int)) ∧ W = w') := Lib.hid fun W hW => by rw [hcb]; exact cost_any W Ac nc cc cf ((HCO.out.below HB.out.1).below hW) e.b
      obtain ⟨sm, hsm⟩ : ∃ sm, sm = e.m + cb := ⟨_, rfl⟩
      have HSM := Lib.hid (And.intro hcb hsm)
      have hcl := HCO.out.le e.b
      have hml := HEO.out.m
      have hw1 : IntKind.i64.wrap (e.m : Int) = (e.m : Int) := by rw [IntKind.wrap_i64]; omega
      have hw2 : IntKind.i64.wrap (cb : Int) = (cb : Int) := by rw [IntKind.wrap_i64]; omega
      have hw3 : IntKind.i64.wrap ((e.m : Int) + (cb : Int)) = (sm : Int) := by rw [IntKind.wrap_i64]; omega
      have hsm2 : sm < 200000 := by omega
      clear hcb hsm hcl hml
      refine wp_region_noPanic ?_
      refine wp_region_held_drew (S := fun y : World => Below wr.heap.size wr y) (by kernel_rfl) ((Below.refl _ _).drew) (fun hHeld => ?_)
      generalize wr.drew = wd at *
      refine wpAnyH_take (i := 0) (oi := ⟨some 19, .fieldAddr 173 (.tmp 11) 3, 0, "routes.go:149", #[], none⟩) (v := .pointer (some ⟨zb, 4, none⟩)) rfl (by kernel_rfl) (by kernel_rfl) (by kernel_rfl) (fun _ _ _ h => h) (Or.inl ⟨by rfl, fun w hSw => by go_simp⟩) (by assumption) ?_
      try simp only [Act.put, List.setIfInBounds_toArray, List.set_cons_zero, List.set_cons_succ]
      refine wpAnyH_take (i := 1) (oi := ⟨some 20, .fieldAddr 48 (.tmp 19) 1, 0, "routes.go:149", #[⟨0, .data⟩], none⟩) (v := .pointer (some ⟨zb, 5, none⟩)) rfl (by kernel_rfl) (by kernel_rfl) (by kernel_rfl) (fun _ _ _ h => h) (Or.inl ⟨by rfl, fun w hSw => by go_simp⟩) (by assumption) ?_
      try simp only [Act.put, List.setIfInBounds_toArray, List.set_cons_zero, List.set_cons_succ]
      refine wpAnyH_take (i := 2) (oi := ⟨some 21, .load 22 (.tmp 20), 22, "routes.go:149", #[⟨1, .data⟩], none⟩) (v := .int .u16 (e.m : Int)) rfl (by kernel_rfl) (by kernel_rfl) (by kernel_rfl) (fun _ _ _ h => h) (Or.inl ⟨by rfl, fun w hSw => by obtain ⟨p0, p1, p2, p3, p4, p5, p6⟩ := row7 (brow hSw HBX.out); go_simp⟩) (by assumption) ?_
      try simp only [Act.put, List.setIfInBounds_toArray, List.set_cons_zero, List.set_cons_succ]
      refine wpAnyH_take (i := 3) (oi := ⟨some 22, .convert 22 3 (.tmp 21), 3, "routes.go:149", #[⟨2, .data⟩], none⟩) (v := .int .i64 (e.m : Int)) rfl (by kernel_rfl) (by kernel_rfl) (by kernel_rfl) (fun _ _ _ h => h) (Or.inl ⟨by rfl, fun w hSw => by go_simp⟩) (by assumption) ?_
      try simp only [Act.put, List.setIfInBounds_toArray, List.set_cons_zero, List.set_cons_succ]
      refine wpAnyH_take (i := 4) (oi := ⟨some 23, .move (.tmp 2), 104, "routes.go:149", #[], none⟩) (v := .slice Ac nc cc) rfl (by kernel_rfl) (by kernel_rfl) (by kernel_rfl) (fun _ _ _ h => h) (Or.inl ⟨by rfl, fun w hSw => by go_simp⟩) (by assumption) ?_
      try simp only [Act.put, List.setIfInBounds_toArray, List.set_cons_zero, List.set_cons_succ]
      refine wpAnyH_take (i := 5) (oi := ⟨some 24, .fieldAddr 173 (.tmp 11) 1, 0, "routes.go:149", #[], none⟩) (v := .pointer (some ⟨zb, 2, none⟩)) rfl (by kernel_rfl) (by kernel_rfl) (by kernel_rfl) (fun _ _ _ h => h) (Or.inl ⟨by rfl, fun w hSw => by go_simp⟩) (by assumption) ?_
      try simp only [Act.put, List.setIfInBounds_toArray, List.set_cons_zero, List.set_cons_succ]
      refine wpAnyH_take (i := 6) (oi := ⟨some 25, .load 3 (.tmp 24), 3, "routes.go:149", #[⟨5, .data⟩], none⟩) (v := .int .i64 (e.b : Int)) rfl (by kernel_rfl) (by kernel_rfl) (by kernel_rfl) (fun _ _ _ h => h) (Or.inl ⟨by rfl, fun w hSw => by obtain ⟨p0, p1, p2, p3, p4, p5, p6⟩ := row7 (brow hSw HBX.out); go_simp⟩) (by assumption) ?_
      try simp only [Act.put, List.setIfInBounds_toArray, List.set_cons_zero, List.set_cons_succ]
      refine wpAnyH_ready (rs := [7]) (by kernel_rfl) (by simp) ?_
      refine AllReadyH.cons (o := ⟨some 26, .call ⟨.value (.func 130), #[.tmp 23, .tmp 25], #[104, 3]⟩, 22, "routes.go:149", #[⟨4, .data⟩, ⟨6, .data⟩], none⟩) rfl (fun K hK => ?_) AllReadyH.nil
      go_simp
      with_reducible refine (HCC.out _ hHeld).mono ?_
      rintro en w9 ⟨rfl, rfl⟩
      refine hK.out _ _ (hHeld) (fun hHeld2 => ?_)
      clear hK K hHeld
      have hHeld := hHeld2
      clear hHeld2
      try simp only [Act.put, List.setIfInBounds_toArray, List.set_cons_zero, List.set_cons_succ]
      refine wpAnyH_take (i := 8) (oi := ⟨some 27, .convert 22 3 (.tmp 26), 3, "routes.go:149", #[⟨7, .data⟩], none⟩) (v := .int .i64 (cb : Int)) rfl (by kernel_rfl) (by kernel_rfl) (by kernel_rfl) (fun _ _ _ h => h) (Or.inl ⟨by rfl, fun w hSw => by go_simp⟩) (by assumption) ?_
      try simp only [Act.put, List.setIfInBounds_toArray, List.set_cons_zero, List.set_cons_succ]
      refine wpAnyH_take (i := 9) (oi := ⟨some 28, .binOp .add 3 (.tmp 22) (.tmp 27) 3, 3, "routes.go:149", #[⟨3, .data⟩, ⟨8, .data⟩], none⟩) (v := .int .i64 (sm : Int)) rfl (by kernel_rfl) (by kernel_rfl) (by kernel_rfl) (fun _ _ _ h => h) (Or.inl ⟨by rfl, fun w hSw => by go_simp⟩) (by assumption) ?_
      try simp only [Act.put, List.setIfInBounds_toArray, List.set_cons_zero, List.set_cons_succ]
      refine wpAnyH_take (i := 10) (oi := ⟨some 12, .assign (.tmp 28), 3, "routes.go:149", #[⟨9, .data⟩, ⟨7, .chain⟩, ⟨0, .phase⟩, ⟨1, .phase⟩, ⟨2, .phase⟩, ⟨3, .phase⟩, ⟨4, .phase⟩, ⟨5, .phase⟩, ⟨6, .phase⟩, ⟨7, .phase⟩, ⟨8, .phase⟩, ⟨9, .phase⟩], none⟩) (v := .int .i64 (sm : Int)) rfl (by kernel_rfl) (by kernel_rfl) (by kernel_rfl) (fun _ _ _ h => h) (Or.inl ⟨by rfl, fun w hSw => by go_simp⟩) (by assumption) ?_
      try simp only [Act.put, List.setIfInBounds_toArray, List.set_cons_zero, List.set_cons_succ]
      refine wpAnyH_done (by kernel_rfl) ?_ _
      try unfold NoPanic
      replace HB := Lib.hid (And.intro (HB.out.1.trans (hHeld.mono HB.out.1.size)) (And.intro (brow hHeld HB.out.2.1) (brow hHeld HB.out.2.2)))
      replace HBX := Lib.hid (brow hHeld HBX.out)
      clear hHeld hw1 hw2 hw3 HCC
      have HS := Lib.hid (stp_le (cf := cf) (f := f) (x := (x, r)) (e := e) HA.out.2)
      have hzb : zb < wd.heap.size := (Array.getElem?_eq_some_iff.1 HBX.out).1
      obtain ⟨p0, p1, p2, p3, p4, p5, p6⟩ := row7 HBX.out
      by_cases hlx : sm < x
      · have hlx2 : (sm : Int) < (x : Int) := by omega
        have c57 := feasp_any wd ls qs cs sb f (HH.out.2.2.2.1.below HB.out.1) (brow HB.out.1 HH.out.2.2.2.2) e HEO.out
        cases hfe : feasE f e with
        | true =>
          rw [hfe] at c57
          have HNX := Lib.hid (show stp cf f (x, r) e = (sm, ⟨e.a, e.n, e.b, sm, e.s⟩) by unfold stp; rw [if_pos ⟨by rw [← HSM.out.1, ← HSM.out.2]; exact hlx, hfe⟩, ← HSM.out.1, ← HSM.out.2])
          have hwu : IntKind.u16.wrap (sm : Int) = (sm : Int) := by rw [IntKind.wrap_u16]; have := HA.out.2; omega
          have HC := Lib.hid c57
          clear hfe c57 hlx
          go_upto_region 9 with (go_at_call 131; (with_reducible refine HC.out.mono ?_); rintro en w5 ⟨rfl, B5⟩; have HB5 := Lib.hid B5; clear B5)
          clear p0 p1 p2 p3 p4 p5 p6
          have HB6 := Lib.hid (And.intro (HB.out.1.trans (HB5.out.mono HB.out.1.size)) (And.intro (brow HB5.out HB.out.2.1) (brow HB5.out HB.out.2.2)))
          obtain ⟨p0, p1, p2, p3, p4, p5, p6⟩ := row7 (brow HB5.out HBX.out)
          obtain ⟨z0, z1, z2, z3, z4, zf⟩ := row5' HB6.out.2.2
          have hzb5 := Nat.lt_of_lt_of_le hzb HB5.out.size
          have hws5 : w.heap.size + 1 < w5.heap.size := (Array.getElem?_eq_some_iff.1 HB6.out.2.2).1
          have HFin := Lib.hid (And.intro (set5 HB6.out.2.2 (.int .u32 (e.a : Int)) (.int .u8 (e.n : Int)) (.int .i64 (e.b : Int)) (.int .u16 (sm : Int)) (.int .u16 (e.s : Int))) (grown5 w5 (w.heap.size + 1) (.int .u32 (e.a : Int)) (.int .u8 (e.n : Int)) (.int .i64 (e.b : Int)) (.int .u16 (sm : Int)) (.int .u16 (e.s : Int))))
          go_upto_region 10 with (fail)
          generalize ((((w5.setCell _ _).setCell _ _).setCell _ _).setCell _ _).setCell _ _ = w7 at *
          clear z0 z1 z2 z3 z4 zf p0 p1 p2 p3 p4 p5 p6
          go_wp2
          go_roundw
          case rel => exact ⟨sm, rfl, k + 1, by omega, by go_num, ⟨e.a, e.n, e.b, sm, e.s⟩, ⟨HST.out.trans HNX.out, by have := HS.out; rw [HNX.out] at this; exact this⟩, HB6.out.1.grown HFin.out.2 HB6.out.1.size (fun k e => by have := Option.some.inj e; omega), (HFin.out.2.block _ (by omega) (fun e => by have := Option.some.inj e; omega)).trans HB6.out.2.1, HFin.out.1⟩
          case measure => simp [intOf]; omega
        | false =>
          rw [hfe] at c57
          have HNX := Lib.hid (show stp cf f (x, r) e = (x, r) by unfold stp; rw [if_neg (by rw [hfe]; simp)])
          have HC := Lib.hid c57
          clear hfe c57 hlx
          go_wp2_with (go_at_call 131; (with_reducible refine HC.out.mono ?_); rintro en w5 ⟨rfl, B5⟩; have HB5 := Lib.hid B5; clear B5)
          go_roundw
          case rel => exact ⟨x, rfl, k + 1, by omega, by go_num, r, ⟨HST.out.trans HNX.out, HA.out.2⟩, HB.out.1.trans (HB5.out.mono HB.out.1.size), brow HB5.out HB.out.2.1, brow HB5.out HB.out.2.2⟩
          case measure => simp [intOf]; omega
      · have hlx2 : ¬ (sm : Int) < (x : Int) := by omega
        have HNX := Lib.hid (show stp cf f (x, r) e = (x, r) by unfold stp; rw [if_neg (fun h => hlx (by rw [HSM.out.2, HSM.out.1]; exact h.1))])
        clear hlx
        go_wp2
        go_roundw
        case rel => exact ⟨x, rfl, k + 1, by omega, by go_num, r, ⟨HST.out.trans HNX.out, HA.out.2⟩, HB.out⟩
        case measure => simp [intOf]; omega
    · obtain rfl : k = n := by omega
      have HSH := Lib.hid (show short cf f G = (x, r) by have := HA.out.1; rw [List.take_of_length_le (by rw [HH.out.1]; exact Nat.le_refl _)] at this; exact this)
      obtain ⟨z0, z1, z2, z3, z4, zf⟩ := row5' HB.out.2.2
      obtain ⟨y0, y1, y2, y3, y4, yf⟩ := row5' HB.out.2.1
      have hws5 : w.heap.size + 1 < wr.heap.size := (Array.getElem?_eq_some_iff.1 HB.out.2.2).1
      go_wp2
      have hde : decide ((x : Int) < 65535) = decide (x < 65535) := decide_eq_decide.2 (by omega)
      exact bodyPost_ret (Src.results_ct rfl _ _ w.heap.size 40 _ (0, 0) _ (.bool (decide ((x : Int) < 65535))) rfl rfl (set5 HB.out.2.1 _ _ _ _ _) Tryz.underlying40 rfl (by kernel_rfl)) rfl ⟨by rw [HSH.out, hde], HB.out.1.grown (grown5 wr w.heap.size _ _ _ _ _) HB.out.1.size (fun k e => by have := Option.some.inj e; omega)⟩
end Go.Proofs.YtjbogjbopgcbhaaGreatDoor.Rts
namespace Go.Proofs.YtjbogjbopgcbhaaGreatDoor.Rts
open Pre Ser
open Go.Proofs.YtjbogjbopgcbhaaGreatDoor.Src (row1 row2 Mk)
open Go.ChangeShapes Go.WideShapes Go.ChangeAt Go.RowKit
set_option maxRecDepth 8000
set_option linter.unusedVariables false
def E.pk (e : E) : Nat := e.a * 256 + e.n
def ofp (a n : Nat) (e : E) : Bool := decide (e.a = a ∧ e.n = n)
theorem pk_le {x y : E} (h : x.key < y.key) (hx : x.Ok) (hy : y.Ok) : x.pk ≤ y.pk := by
  have h1 := hx.b; have h2 := hy.b
  unfold E.key Rts.key at h; unfold E.pk; omega
theorem pk_lt {x y : E} (h : x.pk ≤ y.pk) (hx : x.Ok) (hy : y.Ok) (hn : ¬ samep x y) : x.pk < y.pk := by
  have h1 := hx.n; have h2 := hy.n
  rcases Nat.lt_or_eq_of_le h with h | h
  · exact h
  · exact absurd ⟨by unfold E.pk at h; omega, by unfold E.pk at h; omega⟩ hn
theorem Grp.ahead {L : List E} {i j : Nat} (g : Grp L i j) (hr : Rising L) (hL : ∀ e ∈ L, e.Ok) {k : Nat} (hk : k < i) : ∃ h : k < L.length, L[k].pk < (L[i]'(Nat.lt_of_lt_of_le g.lt g.le)).pk := by
  have hil : i < L.length := Nat.lt_of_lt_of_le g.lt g.le
  have hkl : k < L.length := by omega
  refine ⟨hkl, ?_⟩
  rcases g.fst with h | ⟨h, hne⟩
  · omega
  · have h1 : L[k].pk ≤ L[i - 1].pk := by
      rcases Nat.lt_or_eq_of_le (show k ≤ i - 1 by omega) with h2 | h2
      · exact pk_le (hr.get h2 h) (hL _ (List.getElem_mem _)) (hL _ (List.getElem_mem _))
      · subst h2; exact Nat.le_refl _
    have h2 := pk_lt (pk_le (hr.get (show i - 1 < i by omega) hil) (hL _ (List.getElem_mem _)) (hL _ (List.getElem_mem _))) (hL _ (List.getElem_mem _)) (hL _ (List.getElem_mem _)) hne
    omega
theorem Grp.filter {L : List E} {i j : Nat} (g : Grp L i j) (hr : Rising L) (hL : ∀ e ∈ L, e.Ok) (a n : Nat) :
    (L.take j).filter (ofp a n) = if ofp a n (L[i]'(Nat.lt_of_lt_of_le g.lt g.le)) then (L.drop i).take (j - i) else (L.take i).filter (ofp a n) := by
  have hil : i < L.length := Nat.lt_of_lt_of_le g.lt g.le
  have hsp : L.take j = L.take i ++ (L.drop i).take (j - i) := by
    have := g.lt
    rw [← List.take_add]; congr 1; omega
  have hin : ∀ e ∈ (L.drop i).take (j - i), samep e L[i] := fun e he => by
    obtain ⟨k, hk, rfl⟩ := List.getElem_of_mem he
    rw [List.length_take, List.length_drop] at hk
    rw [List.getElem_take, List.getElem_drop]
    exact g.all _ (by omega) (by omega) (by omega)
  rw [hsp, List.filter_append]
  split
  · rename_i h
    have hp := of_decide_eq_true h
    have e1 : (L.take i).filter (ofp a n) = [] := List.filter_eq_nil_iff.2 fun e he => by
      obtain ⟨k, hk, rfl⟩ := List.getElem_of_mem he
      rw [List.length_take] at hk
      rw [List.getElem_take]
      obtain ⟨hkl, hlt⟩ := g.ahead hr hL (show k < i by omega)
      intro h2
      have h2 := of_decide_eq_true h2
      unfold E.pk at hlt
      rw [h2.1, h2.2, hp.1, hp.2] at hlt
      omega
    rw [e1, List.nil_append]
    exact List.filter_eq_self.2 fun e he => by
      have := hin e he
      exact decide_eq_true ⟨this.1.trans hp.1, this.2.trans hp.2⟩
  · rename_i h
    have e1 : ((L.drop i).take (j - i)).filter (ofp a n) = [] := List.filter_eq_nil_iff.2 fun e he => by
      have := hin e he
      intro h2
      have h2 := of_decide_eq_true h2
      exact h (decide_eq_true ⟨this.1.symm.trans h2.1, this.2.symm.trans h2.2⟩)
    rw [e1, List.append_nil]
def selP (cf : Nat → Nat) (f : Mk) (M : List E) (a n : Nat) : Option Ro := if (short cf f (M.filter (ofp a n))).1 < 65535 then some (short cf f (M.filter (ofp a n))).2 else none
def Ro.pk (r : Ro) : Nat := r.a * 256 + r.n
structure SelOK (cf : Nat → Nat) (f : Mk) (M : List E) (rs : List Ro) : Prop where
  up : rs.Pairwise fun x y => x.pk < y.pk
  mem : ∀ r, r ∈ rs ↔ selP cf f M r.a r.n = some r
theorem SelOK.nil (cf : Nat → Nat) (f : Mk) : SelOK cf f [] [] := ⟨List.Pairwise.nil, fun r => by simp [selP, short]⟩
theorem fold_of (cf : Nat → Nat) (f : Mk) (a n : Nat) : ∀ (G : List E) (x : Nat × Ro), (∀ e ∈ G, e.a = a ∧ e.n = n) → (x.1 < 65535 → x.2.a = a ∧ x.2.n = n) → x.1 ≤ 65535 → ((G.foldl (stp cf f) x).1 < 65535 → (G.foldl (stp cf f) x).2.a = a ∧ (G.foldl (stp cf f) x).2.n = n)
  | [], x, _, h, _ => h
  | e :: G, x, hG, h, hx => by
    refine fold_of cf f a n G (stp cf f x e) (fun e' he => hG e' (List.mem_cons_of_mem _ he)) (fun h1 => ?_) (stp_le hx)
    have := hG e (List.mem_cons_self ..)
    unfold stp at h1 ⊢
    split at h1
    · rename_i hc
      rw [if_pos hc]
      exact this
    · rename_i hc
      rw [if_neg hc]
      exact h h1
theorem short_of {cf : Nat → Nat} {f : Mk} {G : List E} {a n : Nat} (hG : ∀ e ∈ G, e.a = a ∧ e.n = n) (h : (short cf f G).1 < 65535) : (short cf f G).2.a = a ∧ (short cf f G).2.n = n :=
  fold_of cf f a n G (65535, Ro.zero) hG (fun h => absurd h (Nat.lt_irrefl _)) (Nat.le_refl _) h
theorem SelOK.grp {cf : Nat → Nat} {f : Mk} {L : List E} {i j : Nat} {rs : List Ro} (h : SelOK cf f (L.take i) rs) (g : Grp L i j) (hr : Rising L) (hL : ∀ e ∈ L, e.Ok) :
    SelOK cf f (L.take j) (rs ++ if (short cf f ((L.drop i).take (j - i))).1 < 65535 then [(short cf f ((L.drop i).take (j - i))).2] else []) := by
  have hil : i < L.length := Nat.lt_of_lt_of_le g.lt g.le
  have hin : ∀ e ∈ (L.drop i).take (j - i), e.a = L[i].a ∧ e.n = L[i].n := fun e he => by
    obtain ⟨k, hk, rfl⟩ := List.getElem_of_mem he
    rw [List.length_take, List.length_drop] at hk
    rw [List.getElem_take, List.getElem_drop]
    exact g.all _ (by omega) (by omega) (by omega)
  have hof : ∀ hs : (short cf f ((L.drop i).take (j - i))).1 < 65535, (short cf f ((L.drop i).take (j - i))).2.a = L[i].a ∧ (short cf f ((L.drop i).take (j - i))).2.n = L[i].n := fun hs => short_of hin hs
  -- what is selected so far lies ahead
  have hah : ∀ r ∈ rs, r.pk < L[i].pk := fun r hr2 => by
    have hm := (h.mem r).1 hr2
    unfold selP at hm
    split at hm
    · rename_i hs
      have hne : (L.take i).filter (ofp r.a r.n) ≠ [] := fun e => by rw [e] at hs; exact Nat.lt_irrefl _ hs
      obtain ⟨e, he⟩ := List.exists_mem_of_ne_nil _ hne
      obtain ⟨he1, he2⟩ := List.mem_filter.1 he
      obtain ⟨k, hk, rfl⟩ := List.getElem_of_mem he1
      rw [List.length_take] at hk
      rw [List.getElem_take] at he2
      obtain ⟨hkl, hlt⟩ := g.ahead hr hL (show k < i by omega)
      have h2 := of_decide_eq_true he2
      unfold E.pk at hlt ⊢
      unfold Ro.pk
      rw [← h2.1, ← h2.2]; exact hlt
    · cases hm
  refine ⟨?_, fun r => ?_⟩
  · rw [List.pairwise_append]
    refine ⟨h.up, ?_, fun x hx y hy => ?_⟩
    · split
      · exact List.pairwise_singleton _ _
      · exact List.Pairwise.nil
    · split at hy
      · rename_i hs
        rw [List.mem_singleton] at hy
        subst hy
        have := hah x hx
        unfold Ro.pk at this ⊢
        rw [(hof hs).1, (hof hs).2]
        exact this
      · simp at hy
  · rw [List.mem_append, h.mem r]
    have hf := g.filter hr hL r.a r.n
    unfold selP
    rw [hf]
    by_cases hp : ofp r.a r.n L[i] = true
    · rw [if_pos hp]
      have hp2 := of_decide_eq_true hp
      have e0 : (L.take i).filter (ofp r.a r.n) = [] := List.filter_eq_nil_iff.2 fun e he => by
        obtain ⟨k, hk, rfl⟩ := List.getElem_of_mem he
        rw [List.length_take] at hk
        rw [List.getElem_take]
        obtain ⟨hkl, hlt⟩ := g.ahead hr hL (show k < i by omega)
        intro h2
        have h2 := of_decide_eq_true h2
        unfold E.pk at hlt
        rw [h2.1, h2.2, hp2.1, hp2.2] at hlt
        omega
      rw [e0]
      have en : ¬ (short cf f []).1 < 65535 := Nat.lt_irrefl _
      rw [if_neg en]
      by_cases hs : (short cf f ((L.drop i).take (j - i))).1 < 65535
      · rw [if_pos hs, if_pos hs, List.mem_singleton]
        constructor
        · rintro (h | h)
          · cases h
          · rw [h]
        · intro h; exact Or.inr (Option.some.inj h).symm
      · rw [if_neg hs, if_neg hs]; simp
    · rw [if_neg hp]
      constructor
      · rintro (h | h)
        · exact h
        · exfalso
          split at h
          · rename_i hs
            rw [List.mem_singleton] at h
            subst h
            exact hp (decide_eq_true ⟨(hof hs).1.symm, (hof hs).2.symm⟩)
          · simp at h
      · exact Or.inl
def GOwn {α : Type} (t : TypeId) (k : Nat) (cl : α → List Value) (w : World) (B : Nat) (v : Value) (l : List α) : Prop := w.ownsRow B t k v l.length (l.flatMap cl)
theorem gflat_at {α : Type} {cl : α → List Value} {k : Nat} (hk : ∀ x, (cl x).length = k) : ∀ (l : List α) (j i : Nat) (hj : j < l.length), i < k → (l.flatMap cl)[j * k + i]? = (cl l[j])[i]?
  | x :: l, 0, i, _, hi => by
    simp only [List.flatMap_cons, Nat.zero_mul, Nat.zero_add, List.getElem_cons_zero]
    rw [List.getElem?_append_left (by rw [hk]; exact hi)]
  | x :: l, j + 1, i, hj, hi => by
    simp only [List.flatMap_cons, List.getElem_cons_succ]
    have e : (j + 1) * k + i = k + (j * k + i) := by rw [Nat.succ_mul]; omega
    rw [e, List.getElem?_append_right (by rw [hk]; omega), hk, show k + (j * k + i) - k = j * k + i by omega]
    exact gflat_at hk l j i (by simpa using hj) hi
theorem GOwn.form {α : Type} {t : TypeId} {k : Nat} {cl : α → List Value} {w : World} {B : Nat} {v : Value} {l : List α} (h : GOwn t k cl w B v l) (hk : ∀ x, (cl x).length = k) : ∃ A c, v = .slice A l.length c ∧ l.length ≤ c ∧ ∀ j (hj : j < l.length), ∃ b, A = some ⟨b, 0, none⟩ ∧ B ≤ b ∧ b < w.heap.size ∧ ∀ i, i < k → w.cell? ⟨b, j * k + i, none⟩ = (cl l[j])[i]? := by
  rcases h.2 with ⟨hv, hn⟩ | ⟨g, cap, cur, hv, hB, hg, h1, h2, h3, h4⟩
  · have e : l.length = 0 := hn
    exact ⟨none, 0, by rw [hv, e], by omega, fun j hj => absurd hj (by omega)⟩
  · refine ⟨some ⟨g, 0, none⟩, cap, hv, h1, fun j hj => ⟨g, rfl, hB, (Array.getElem?_eq_some_iff.1 hg).1, fun i hi => ?_⟩⟩
    rw [cell_of_row w g _ cur t (0, 0) hg, ← gflat_at hk l j i hj hi, ← h4, List.getElem?_take, if_pos]
    · simp
    · have : (j + 1) * k ≤ l.length * k := Nat.mul_le_mul_right k hj
      rw [Nat.succ_mul] at this
      omega
theorem GOwn.nil {α : Type} (t : TypeId) (k : Nat) (cl : α → List Value) (w : World) (B : Nat) : GOwn t k cl w B (.slice none 0 0) ([] : List α) := World.ownsRow_nil w B t k
theorem GOwn.kept {α : Type} {t : TypeId} {k : Nat} {cl : α → List Value} {w w' : World} {B : Nat} {v : Value} {l : List α} (h : GOwn t k cl w B v l) (hb : Below w.heap.size w w') : GOwn t k cl w' B v l :=
  World.ownsRow.kept (row := none) h ⟨hb.os, hb.tape, hb.output, hb.size, fun k hk _ => hb.block k hk⟩ (by cases v.ownBlock <;> simp)
theorem GOwn.lt {α : Type} {t : TypeId} {k : Nat} {cl : α → List Value} {w : World} {B : Nat} {v : Value} {l : List α} (h : GOwn t k cl w B v l) {b : Nat} (e : v.ownBlock = some b) : B ≤ b ∧ ∃ cur, w.heap[b]? = some (.cells cur t (0, 0)) := by
  rcases h.2 with ⟨hv, -⟩ | ⟨g, cap, cur, hv, hB, hg, -⟩
  · rw [hv] at e; cases e
  · rw [hv] at e
    have e : some g = some b := e
    injection e with e; subst e
    exact ⟨hB, cur, hg⟩
theorem GOwn.ne {α : Type} {t : TypeId} {k : Nat} {cl : α → List Value} {w : World} {B : Nat} {v : Value} {l : List α} (h : GOwn t k cl w B v l) {b : Nat} {x : Array Value} {u : TypeId} {fr : Nat × Nat} (hr : w.heap[b]? = some (.cells x u fr)) (ht : u ≠ t) : v.ownBlock ≠ some b := fun e => by
  obtain ⟨-, cur, hg⟩ := h.lt e
  rw [hg] at hr; injection hr with hr; injection hr with _ h2 _
  exact ht h2.symm
theorem gapp_run {α : Type} {t st : TypeId} {k by_ : Nat} {cl : α → List Value} {i0 : TypeInfo} {z : Value} (hu : Tryz.prog.underlying st = some (.slice t)) (hi : Tryz.prog.info? t = some i0) (hz0 : i0.zero = some z) (hz1 : i0.size = k) (hz2 : i0.bytes = by_) (hzc : z.cells.size = k) (hk0 : 0 < k) (hk : ∀ x, (cl x).length = k) (h1 : ∀ x, ∀ u ∈ cl x, u.oneCell' = true) (hby : by_ ≤ 100)
    (w : World) (B : Nat) (v : Value) (l : List α) (x : α) (b : Nat) (hown : GOwn t k cl w B v l) (hc : ∀ j u, (cl x)[j]? = some u → w.cell? ((⟨b, 0, none⟩ : Addr).add j) = some u) (hlen : l.length ≤ 1000) (hB : B ≤ w.heap.size) :
    ∃ v' w', (Builtin.append_ #[st, st] st #[v, .slice (some ⟨b, 0, none⟩) 1 1]).run Tryz.prog w = .ok v' w' ∧ GOwn t k cl w' B v' (l ++ [x]) ∧ w.grownBy w' v.ownBlock := by
  have hby2 : (l.length + 1) * by_ ≤ 140737488355328 := Nat.le_trans (Nat.mul_le_mul (show l.length + 1 ≤ 1001 by omega) hby) (by decide)
  obtain ⟨v', w', hrun, h2, h3, -⟩ := run_append_own_at (P := Tryz.prog) w B st st t i0 z k by_ hu hi hz0 hz1 hz2 hzc hk0 v l.length (l.flatMap cl) hown ⟨b, 0, none⟩ 1 1 (cl x) (by rw [hk, Nat.one_mul]) hc (h1 x) (by unfold maxLen; omega) hby2 hB
  refine ⟨v', w', hrun, ?_, h3⟩
  unfold GOwn
  rw [List.length_append, List.flatMap_append]
  simpa using h2
end Go.Proofs.YtjbogjbopgcbhaaGreatDoor.Rts
