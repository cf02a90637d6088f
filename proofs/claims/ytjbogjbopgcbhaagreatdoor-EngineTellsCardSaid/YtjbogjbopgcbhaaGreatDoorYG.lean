/- slices.BinarySearchFunc over rows, rising by a key: neighbors. slices.BinarySearchFunc: routes. slices.BinarySearchFunc: prefixes. A router: which neighbor, which way. -/
import Derived.Test.YtjbogjbopgcbhaaGreatDoorYF
import Derived.Deep.DeepCutAuto
import Derived.Deep.RegionHeld3
namespace Go.Proofs.YtjbogjbopgcbhaaGreatDoor.Eg
open Pre Ser Rts
open Go.Proofs.YtjbogjbopgcbhaaGreatDoor.Src (row1 row2 Mk SrcAt)
open Go.Proofs.YtjbogjbopgcbhaaGreatDoor.Lk (LkAt)
open Go.ChangeShapes Go.WideShapes Go.ChangeAt Go.RowKit
set_option maxRecDepth 8000
set_option linter.unusedVariables false
set_option linter.unusedSimpArgs false
def gpos {α : Type} (κ : α → Nat) (x : Nat) : List α → Nat
  | [] => 0
  | e :: L => if κ e < x then gpos κ x L + 1 else 0
theorem gpos_le {α : Type} (κ : α → Nat) (x : Nat) : ∀ L : List α, gpos κ x L ≤ L.length
  | [] => Nat.le_refl _
  | e :: L => by
    have := gpos_le κ x L
    unfold gpos
    rw [List.length_cons]
    split <;> omega
theorem gpos_lt {α : Type} {κ : α → Nat} {x : Nat} : ∀ {L : List α} {l : Nat} (hl : l < L.length), l < gpos κ x L → κ L[l] < x
  | [], l, hl, _ => absurd hl (by simp)
  | e :: L, l, hl, hp => by
    unfold gpos at hp
    split at hp
    · rcases l with _ | l
      · assumption
      · exact gpos_lt (L := L) (by simpa using hl) (by omega)
    · omega
def GUp {α : Type} (κ : α → Nat) (L : List α) : Prop := L.Pairwise fun x y => κ x < κ y
theorem GUp.get {α : Type} {κ : α → Nat} {L : List α} (h : GUp κ L) {i j : Nat} (hij : i < j) (hj : j < L.length) : κ L[i] < κ L[j] := List.pairwise_iff_getElem.1 h i j (by omega) hj hij
theorem gpos_ge {α : Type} {κ : α → Nat} {x : Nat} : ∀ {L : List α}, GUp κ L → ∀ {l : Nat} (hl : l < L.length), gpos κ x L ≤ l → x ≤ κ L[l]
  | [], _, l, hl, _ => absurd hl (by simp)
  | e :: L, hr, l, hl, hp => by
    have hr2 := List.pairwise_cons.1 hr
    unfold gpos at hp
    split at hp
    · rcases l with _ | l
      · omega
      · exact gpos_ge (L := L) hr2.2 (by simpa using hl) (by omega)
    · rcases l with _ | l
      · show x ≤ κ e; omega
      · have hl' : l < L.length := by simpa using hl
        have := hr2.1 _ (List.getElem_mem hl')
        show x ≤ κ L[l]
        omega
theorem gpos_of {α : Type} {κ : α → Nat} {L : List α} {x i : Nat} (hr : GUp κ L) (hi : i ≤ L.length) (h1 : ∀ l (hl : l < L.length), l < i → κ L[l] < x) (h2 : ∀ l (hl : l < L.length), i ≤ l → x ≤ κ L[l]) : i = gpos κ x L := by
  have hp := gpos_le κ x L
  rcases Nat.lt_trichotomy i (gpos κ x L) with h | h | h
  · have := gpos_lt (L := L) (x := x) (l := i) (by omega) h
    have := h2 i (by omega) (Nat.le_refl _)
    omega
  · exact h
  · have := h1 (gpos κ x L) (by omega) h
    have := gpos_ge hr (x := x) (l := gpos κ x L) (by omega) (Nat.le_refl _)
    omega
def gthere {α : Type} (κ : α → Nat) (x : Nat) (L : List α) : Bool := match L[gpos κ x L]? with | some e => κ e == x | none => false
theorem gthere_iff {α : Type} {κ : α → Nat} {L : List α} (hr : GUp κ L) (x : Nat) : gthere κ x L = true ↔ ∃ e ∈ L, κ e = x := by
  unfold gthere
  constructor
  · intro h
    split at h
    · rename_i e he
      exact ⟨e, List.mem_of_getElem? he, by simpa using h⟩
    · cases h
  · rintro ⟨e, he, hk⟩
    obtain ⟨l, hl, rfl⟩ := List.getElem_of_mem he
    have h1 : gpos κ x L ≤ l := by
      rcases Nat.lt_or_ge l (gpos κ x L) with h | h
      · have := gpos_lt hl h; omega
      · exact h
    have hpl : gpos κ x L < L.length := by omega
    have h2 := gpos_ge hr hpl (Nat.le_refl _)
    have h3 : gpos κ x L = l := by
      rcases Nat.lt_or_eq_of_le h1 with h | h
      · have := hr.get h hl; omega
      · exact h
    rw [List.getElem?_eq_getElem hpl]
    have : κ L[gpos κ x L] = x := by simp only [h3]; exact hk
    simpa using this
def GPart {α : Type} (κ : α → Nat) (rs : List α) (x i j : Nat) : Prop := (∀ l (hl : l < rs.length), l < i → κ rs[l] < x) ∧ (∀ l (hl : l < rs.length), j ≤ l → x ≤ κ rs[l])
theorem GPart.left {α : Type} {κ : α → Nat} {rs : List α} {x i j h : Nat} (hr : GUp κ rs) (H : GPart κ rs x i j) (hl : h < rs.length) (hx : κ rs[h] < x) : GPart κ rs x (h + 1) j :=
  ⟨fun l hl' hlt => by
    rcases Nat.lt_or_eq_of_le (Nat.lt_succ_iff.1 hlt) with h1 | h1
    · exact Nat.lt_trans (hr.get h1 hl) hx
    · subst h1; exact hx, H.2⟩
theorem GPart.right {α : Type} {κ : α → Nat} {rs : List α} {x i j h : Nat} (hr : GUp κ rs) (H : GPart κ rs x i j) (hl : h < rs.length) (hx : ¬ κ rs[h] < x) : GPart κ rs x i h :=
  ⟨H.1, fun l hl' hle => by
    rcases Nat.lt_or_eq_of_le hle with h1 | h1
    · have := hr.get h1 hl'; omega
    · subst h1; omega⟩
set_option maxHeartbeats 4000000 in
theorem bsfNb_any (w : World) (A : Option Addr) (n cp : Nat) (rs : List (Nat × Nat)) (hn : n = rs.length) (hmax : n ≤ 1000000) (hc : GSl 2 nbC w A rs) (κ : Nat × Nat → Nat) (x : Nat) (hup : GUp κ rs) (tx : Nat) (cm : Nat × Nat → Int) (hcm : ∀ e ∈ rs, (cm e < 0 ↔ κ e < x) ∧ (cm e = 0 ↔ κ e = x))
    (hp : ∀ (W : World) (e : Nat × Nat), e ∈ rs → Calls Tryz.prog 116 #[.agg #[.int .i64 (e.1 : Int), .pointer (some ⟨e.2, 0, none⟩)], .int .i64 (tx : Int)] W fun en w' => en = .returned (.int .i64 (cm e)) ∧ Below W.heap.size W w') :
    Calls Tryz.prog 115 #[.slice A n cp, .int .i64 (tx : Int), .func (.func 116) #[] #[]] w fun e w' => e = .returned (.tuple #[.int .i64 ((gpos κ x rs : Nat) : Int), .bool (gthere κ x rs)]) ∧ Below w.heap.size w w' := by
  have HN := Lib.hid hn
  have HC := Lib.hid hc
  have HU := Lib.hid hup
  have HCM := Lib.hid hcm
  have HP := Lib.hid hp
  clear hn hc hup hcm hp
  go_enter Tryz.func115, Tryz.ntmps115
  go_wp2
  go_loopw [9, 10] (fun i j wr => ∃ i0 : Nat, i = .int .i64 i0 ∧ ∃ j0 : Nat, i0 ≤ j0 ∧ j0 ≤ n ∧ j = .int .i64 j0 ∧ Hid (GPart κ rs x i0 j0 ∧ Below w.heap.size w wr)) (fun i j _ => (intOf j - intOf i).toNat)
  case atStart => exact ⟨0, rfl, n, by omega, by omega, rfl, ⟨fun l hl h => by omega, fun l hl h => by have := HN.out; omega⟩, Below.refl _ _⟩
  case round =>
    obtain ⟨i0, rfl, j0, hij, hjn, rfl, HR⟩ := hrel
    skip
    by_cases hlt : i0 < j0
    · obtain ⟨h, hh, hh1, hh2⟩ : ∃ h : Nat, h = (i0 + j0) / 2 ∧ i0 ≤ h ∧ h < j0 := ⟨(i0 + j0) / 2, rfl, by omega, by omega⟩
      have hhn : h < rs.length := by have := HN.out; omega
      obtain ⟨bb, oo, ea, hb, hca0⟩ := (HC.out.below HR.out.2) h hhn
      subst ea
      have hca := NbAt.of hca0
      clear hca0
      have hkey := (HCM.out _ (List.getElem_mem hhn)).1
      have HL0 := fun hx => HR.out.1.left HU.out hhn hx
      have HG0 := fun hx => HR.out.1.right HU.out hhn hx
      have HPE := Lib.hid (fun W => HP.out W rs[h] (List.getElem_mem hhn))
      generalize hr : rs[h] = r at *
      clear hr
      obtain ⟨y, hy⟩ : ∃ y, y = cm r := ⟨_, rfl⟩
      rw [← hy] at HPE hkey
      clear hy
      have hsum : IntKind.i64.wrap ((i0 : Int) + (j0 : Int)) = (i0 : Int) + j0 := by rw [IntKind.wrap_i64]; omega
      have hd : ((i0 : Int) + (j0 : Int)) / 2 = (h : Int) := by omega
      have HL := Lib.hid HL0
      have HG := Lib.hid HG0
      have HK := Lib.hid hkey
      clear hh hkey HL0 HG0
      have HA := Lib.hid hca
      clear hca
      have hhn2 : h < n := by omega
      go_upto_region 5 with (fail)
      clear hd hsum
      obtain ⟨k0, k1⟩ := HA.out
      by_cases hx : κ r < x
      · have hx1 : decide (y < 0) = true := decide_eq_true (HK.out.2 hx)
        have HN5 := HL.out hx
        go_wp2_with (go_at_call 116; (with_reducible refine (HPE.out _).mono ?_); rintro en w3 ⟨rfl, B3⟩)
        go_roundw
        case rel => exact ⟨h + 1, by go_num, j0, by omega, by omega, rfl, ⟨HN5, HR.out.2.trans (B3.mono HR.out.2.size)⟩⟩
        case measure => simp [intOf]; omega
      · have hx1 : decide (y < 0) = false := decide_eq_false (fun e => hx (HK.out.1 e))
        have HN5 := HG.out hx
        go_wp2_with (go_at_call 116; (with_reducible refine (HPE.out _).mono ?_); rintro en w3 ⟨rfl, B3⟩)
        go_roundw
        case rel => exact ⟨i0, rfl, h, by omega, by omega, rfl, ⟨HN5, HR.out.2.trans (B3.mono HR.out.2.size)⟩⟩
        case measure => simp [intOf]; omega
    · obtain rfl : i0 = j0 := by omega
      have hp : i0 = gpos κ x rs := gpos_of HU.out (by have := HN.out; omega) HR.out.1.1 HR.out.1.2
      obtain ⟨p, hpp⟩ : ∃ p, p = gpos κ x rs := ⟨_, rfl⟩
      rw [← hpp] at hp
      subst hp
      by_cases hpn : i0 < n
      · have hhn : i0 < rs.length := by have := HN.out; omega
        obtain ⟨bb, oo, ea, hb, hca0⟩ := (HC.out.below HR.out.2) i0 hhn
        subst ea
        have hca := NbAt.of hca0
        clear hca0
        have hkey := (HCM.out _ (List.getElem_mem hhn)).2
        have hth : gthere κ x rs = (κ rs[i0] == x) := by
          unfold gthere
          rw [← hpp, List.getElem?_eq_getElem hhn]
        have HPE := Lib.hid (fun W => HP.out W rs[i0] (List.getElem_mem hhn))
        generalize hr : rs[i0] = r at *
        clear hr
        obtain ⟨y, hy⟩ : ∃ y, y = cm r := ⟨_, rfl⟩
        rw [← hy] at HPE hkey
        clear hy
        have hbl : (y == 0) = (κ r == x) := by
          by_cases h : κ r = x
          · rw [beq_iff_eq.2 (hkey.2 h), beq_iff_eq.2 h]
          · have h' : ¬ (y = 0) := fun e => h (hkey.1 e)
            rw [beq_eq_false_iff_ne.2 h', beq_eq_false_iff_ne.2 h]
        have HK := Lib.hid (And.intro hpp (hth.trans hbl.symm))
        have HA := Lib.hid hca
        clear hca hkey hth hbl hpp
        go_upto_region 8 with (fail)
        obtain ⟨k0, k1⟩ := HA.out
        go_wp2_with (go_at_call 116; (with_reducible refine (HPE.out _).mono ?_); rintro en w3 ⟨rfl, B3⟩)
        exact bodyPost_ret (v := .tuple #[.int .i64 ((i0 : Nat) : Int), .bool (y == 0)]) (by simp [results, Tryz.results115, go_sem]) rfl ⟨by rw [← HK.out.1, HK.out.2], HR.out.2.trans (B3.mono HR.out.2.size)⟩
      · have hth : gthere κ x rs = false := by
          unfold gthere
          rw [← hpp, List.getElem?_eq_none (by have := HN.out; omega)]
        have HK := Lib.hid (And.intro hpp hth)
        clear hth hpp
        go_wp2
        exact bodyPost_ret (v := .tuple #[.int .i64 ((i0 : Nat) : Int), .bool false]) (by simp [results, Tryz.results115, go_sem]) rfl ⟨by rw [← HK.out.1, HK.out.2], HR.out.2⟩
end Go.Proofs.YtjbogjbopgcbhaaGreatDoor.Eg
namespace Go.Proofs.YtjbogjbopgcbhaaGreatDoor.Eg
open Pre Ser Rts
open Go.Proofs.YtjbogjbopgcbhaaGreatDoor.Src (row1 row2 Mk SrcAt)
open Go.Proofs.YtjbogjbopgcbhaaGreatDoor.Lk (LkAt)
open Go.ChangeShapes Go.WideShapes Go.ChangeAt Go.RowKit
set_option maxRecDepth 8000
set_option linter.unusedVariables false
set_option linter.unusedSimpArgs false
set_option maxHeartbeats 4000000 in
theorem bsfRo_any (w : World) (A : Option Addr) (n cp : Nat) (rs : List (Ro)) (hn : n = rs.length) (hmax : n ≤ 1000000) (hc : GSl 5 Ro.cl w A rs) (κ : Ro → Nat) (x : Nat) (hup : GUp κ rs) (ta tn : Nat) (cm : Ro → Int) (hcm : ∀ e ∈ rs, (cm e < 0 ↔ κ e < x) ∧ (cm e = 0 ↔ κ e = x))
    (hp : ∀ (W : World) (e : Ro), e ∈ rs → Calls Tryz.prog 54 #[.agg #[.int .u32 (e.a : Int), .int .u8 (e.n : Int), .int .i64 (e.v : Int), .int .u16 (e.m : Int), .int .u16 (e.s : Int)], .agg #[.int .u32 (ta : Int), .int .u8 (tn : Int)]] W fun en w' => en = .returned (.int .i64 (cm e)) ∧ Below W.heap.size W w') :
    Calls Tryz.prog 53 #[.slice A n cp, .agg #[.int .u32 (ta : Int), .int .u8 (tn : Int)], .func (.func 54) #[] #[]] w fun e w' => e = .returned (.tuple #[.int .i64 ((gpos κ x rs : Nat) : Int), .bool (gthere κ x rs)]) ∧ Below w.heap.size w w' := by
  have HN := Lib.hid hn
  have HC := Lib.hid hc
  have HU := Lib.hid hup
  have HCM := Lib.hid hcm
  have HP := Lib.hid hp
  have R0 := heap_alloc_new w (.cells #[.int .u32 (ta : Int), .int .u8 (tn : Int)] 30)
  have B0 : Below w.heap.size w (w.alloc (.cells #[.int .u32 (ta : Int), .int .u8 (tn : Int)] 30)) := (Below.refl _ _).alloc (Nat.le_refl _) _
  clear hn hc hup hcm hp
  go_enter Tryz.func53, Tryz.ntmps53
  go_wp2
  generalize w.alloc _ = w1 at *
  obtain ⟨z, hz⟩ : ∃ z, z = w.heap.size := ⟨_, rfl⟩
  rw [← hz] at R0
  have HZ := Lib.hid hz
  try rw [← hz]
  clear hz
  go_loopw [9, 10] (fun i j wr => ∃ i0 : Nat, i = .int .i64 i0 ∧ ∃ j0 : Nat, i0 ≤ j0 ∧ j0 ≤ n ∧ j = .int .i64 j0 ∧ Hid (GPart κ rs x i0 j0 ∧ wr.heap[z]? = some (.cells #[.int .u32 (ta : Int), .int .u8 (tn : Int)] 30 (0, 0)) ∧ Below w.heap.size w wr)) (fun i j _ => (intOf j - intOf i).toNat)
  case atStart => exact ⟨0, rfl, n, by omega, by omega, rfl, ⟨fun l hl h => by omega, fun l hl h => by have := HN.out; omega⟩, R0, B0⟩
  case round =>
    obtain ⟨i0, rfl, j0, hij, hjn, rfl, HR⟩ := hrel
    clear R0 B0
    by_cases hlt : i0 < j0
    · obtain ⟨h, hh, hh1, hh2⟩ : ∃ h : Nat, h = (i0 + j0) / 2 ∧ i0 ≤ h ∧ h < j0 := ⟨(i0 + j0) / 2, rfl, by omega, by omega⟩
      have hhn : h < rs.length := by have := HN.out; omega
      obtain ⟨bb, oo, ea, hb, hca0⟩ := (HC.out.below HR.out.2.2) h hhn
      subst ea
      have hca := RoAt.of hca0
      clear hca0
      have hkey := (HCM.out _ (List.getElem_mem hhn)).1
      have HL0 := fun hx => HR.out.1.left HU.out hhn hx
      have HG0 := fun hx => HR.out.1.right HU.out hhn hx
      have HPE := Lib.hid (fun W => HP.out W rs[h] (List.getElem_mem hhn))
      generalize hr : rs[h] = r at *
      clear hr
      obtain ⟨y, hy⟩ : ∃ y, y = cm r := ⟨_, rfl⟩
      rw [← hy] at HPE hkey
      clear hy
      have hsum : IntKind.i64.wrap ((i0 : Int) + (j0 : Int)) = (i0 : Int) + j0 := by rw [IntKind.wrap_i64]; omega
      have hd : ((i0 : Int) + (j0 : Int)) / 2 = (h : Int) := by omega
      have HL := Lib.hid HL0
      have HG := Lib.hid HG0
      have HK := Lib.hid hkey
      clear hh hkey HL0 HG0
      have HA := Lib.hid hca
      clear hca
      have hhn2 : h < n := by omega
      go_upto_region 5 with (fail)
      clear hd hsum
      refine wp_region_noPanic ?_
      refine wp_region_held_drew (S := fun W : World => Below wr.heap.size wr W ∧ W.heap[z]? = some (.cells #[.int .u32 (ta : Int), .int .u8 (tn : Int)] 30 (0, 0))) (by kernel_rfl) ⟨(Below.refl _ _).drew, HR.out.2.1⟩ (fun hHeld => ?_)
      generalize wr.drew = wd at *
      refine wpAnyH_take (i := 0) (oi := ⟨some 24, .move (.tmp 2), 112, "sort.go:160", #[], none⟩) (v := .func (.func 54) #[] #[]) rfl (by kernel_rfl) (by kernel_rfl) (by kernel_rfl) (fun _ _ _ h => h) (Or.inl ⟨by rfl, fun w hSw => by go_simp⟩) (by assumption) ?_
      try simp only [Act.put, List.setIfInBounds_toArray, List.set_cons_zero, List.set_cons_succ]
      refine wpAnyH_take (i := 1) (oi := ⟨some 25, .move (.tmp 0), 37, "sort.go:160", #[], none⟩) (v := .slice (some ⟨bb, oo, none⟩) n cp) rfl (by kernel_rfl) (by kernel_rfl) (by kernel_rfl) (fun _ _ _ h => h) (Or.inl ⟨by rfl, fun w hSw => by go_simp⟩) (by assumption) ?_
      try simp only [Act.put, List.setIfInBounds_toArray, List.set_cons_zero, List.set_cons_succ]
      refine wpAnyH_take (i := 2) (oi := ⟨some 26, .move (.tmp 11), 3, "sort.go:160", #[], none⟩) (v := .int .i64 (h : Int)) rfl (by kernel_rfl) (by kernel_rfl) (by kernel_rfl) (fun _ _ _ h => h) (Or.inl ⟨by rfl, fun w hSw => by go_simp⟩) (by assumption) ?_
      try simp only [Act.put, List.setIfInBounds_toArray, List.set_cons_zero, List.set_cons_succ]
      refine wpAnyH_take (i := 3) (oi := ⟨some 27, .indexAddr 37 (.tmp 25) (.tmp 26), 0, "sort.go:160", #[⟨1, .data⟩, ⟨2, .data⟩], none⟩) (v := .pointer (some ⟨bb, oo + h * 5, none⟩)) rfl (by kernel_rfl) (by kernel_rfl) (by kernel_rfl) (fun _ _ _ h => h) (Or.inl ⟨by rfl, fun w hSw => by go_simp⟩) (by assumption) ?_
      try simp only [Act.put, List.setIfInBounds_toArray, List.set_cons_zero, List.set_cons_succ]
      refine wpAnyH_take (i := 4) (oi := ⟨some 28, .load 40 (.tmp 27), 40, "sort.go:160", #[⟨3, .data⟩], none⟩) (v := .agg #[.int .u32 (r.a : Int), .int .u8 (r.n : Int), .int .i64 (r.v : Int), .int .u16 (r.m : Int), .int .u16 (r.s : Int)]) rfl (by kernel_rfl) (by kernel_rfl) (by kernel_rfl) (fun _ _ _ h => h) (Or.inl ⟨by rfl, fun w hSw => by obtain ⟨k0, k1, k2, k3, k4⟩ := HA.out.keep (hSw.1.block bb hb); go_simp⟩) (by assumption) ?_
      try simp only [Act.put, List.setIfInBounds_toArray, List.set_cons_zero, List.set_cons_succ]
      refine wpAnyH_take (i := 5) (oi := ⟨some 29, .load 30 (.tmp 4), 30, "sort.go:160", #[], none⟩) (v := .agg #[.int .u32 (ta : Int), .int .u8 (tn : Int)]) rfl (by kernel_rfl) (by kernel_rfl) (by kernel_rfl) (fun _ _ _ h => h) (Or.inl ⟨by rfl, fun w hSw => by obtain ⟨p0, p1, -⟩ := row2 hSw.2; go_simp⟩) (by assumption) ?_
      try simp only [Act.put, List.setIfInBounds_toArray, List.set_cons_zero, List.set_cons_succ]
      refine wpAnyH_ready (rs := [6]) (by kernel_rfl) (by simp) ?_
      refine AllReadyH.cons (o := ⟨some 30, .call ⟨.value (.tmp 24), #[.tmp 28, .tmp 29], #[40, 30]⟩, 3, "sort.go:160", #[⟨0, .data⟩, ⟨4, .data⟩, ⟨5, .data⟩], none⟩) rfl (fun K hK => ?_) AllReadyH.nil
      go_simp
      with_reducible refine (HPE.out _).mono ?_
      rintro e w3 ⟨rfl, B3⟩
      have h3 := hHeld.1.trans (B3.mono hHeld.1.size)
      have h4 : w3.heap[z]? = _ := (B3.block _ (Array.getElem?_eq_some_iff.1 hHeld.2).1).trans hHeld.2
      refine hK.out _ _ (⟨h3, h4⟩) (fun hHeld2 => ?_)
      clear hK K hHeld
      have hHeld := hHeld2
      clear hHeld2
      try simp only [Act.put, List.setIfInBounds_toArray, List.set_cons_zero, List.set_cons_succ]
      refine wpAnyH_take (i := 7) (oi := ⟨some 31, .binOp .lss 3 (.tmp 30) (.const (.int .i64 0)) 3, 4, "sort.go:160", #[⟨6, .data⟩], none⟩) (v := .bool (decide (y < 0))) rfl (by kernel_rfl) (by kernel_rfl) (by kernel_rfl) (fun _ _ _ h => h) (Or.inl ⟨by rfl, fun w hSw => by go_simp⟩) (by assumption) ?_
      try simp only [Act.put, List.setIfInBounds_toArray, List.set_cons_zero, List.set_cons_succ]
      have HE : Hid (_ ∧ _) := And.intro hHeld.2 (HR.out.2.2.trans (hHeld.1.mono HR.out.2.2.size))
      refine wpAnyH_done (by kernel_rfl) ?_ _
      try unfold NoPanic
      by_cases hx : κ r < x
      · have hx1 : decide (y < 0) = true := decide_eq_true (HK.out.2 hx)
        have HN5 := HL.out hx
        go_wp2
        go_roundw
        case rel => exact ⟨h + 1, by go_num, j0, by omega, by omega, rfl, ⟨HN5, HE.out⟩⟩
        case measure => simp [intOf]; omega
      · have hx1 : decide (y < 0) = false := decide_eq_false (fun e => hx (HK.out.1 e))
        have HN5 := HG.out hx
        go_wp2
        go_roundw
        case rel => exact ⟨i0, rfl, h, by omega, by omega, rfl, ⟨HN5, HE.out⟩⟩
        case measure => simp [intOf]; omega
    · obtain rfl : i0 = j0 := by omega
      have hp : i0 = gpos κ x rs := gpos_of HU.out (by have := HN.out; omega) HR.out.1.1 HR.out.1.2
      obtain ⟨p, hpp⟩ : ∃ p, p = gpos κ x rs := ⟨_, rfl⟩
      rw [← hpp] at hp
      subst hp
      by_cases hpn : i0 < n
      · have hhn : i0 < rs.length := by have := HN.out; omega
        obtain ⟨bb, oo, ea, hb, hca0⟩ := (HC.out.below HR.out.2.2) i0 hhn
        subst ea
        have hca := RoAt.of hca0
        clear hca0
        have hkey := (HCM.out _ (List.getElem_mem hhn)).2
        have hth : gthere κ x rs = (κ rs[i0] == x) := by
          unfold gthere
          rw [← hpp, List.getElem?_eq_getElem hhn]
        have HPE := Lib.hid (fun W => HP.out W rs[i0] (List.getElem_mem hhn))
        generalize hr : rs[i0] = r at *
        clear hr
        obtain ⟨y, hy⟩ : ∃ y, y = cm r := ⟨_, rfl⟩
        rw [← hy] at HPE hkey
        clear hy
        have hbl : (y == 0) = (κ r == x) := by
          by_cases h : κ r = x
          · rw [beq_iff_eq.2 (hkey.2 h), beq_iff_eq.2 h]
          · have h' : ¬ (y = 0) := fun e => h (hkey.1 e)
            rw [beq_eq_false_iff_ne.2 h', beq_eq_false_iff_ne.2 h]
        have HK := Lib.hid (And.intro hpp (hth.trans hbl.symm))
        have HA := Lib.hid hca
        clear hca hkey hth hbl hpp
        go_upto_region 8 with (fail)
        refine wp_region_noPanic ?_
        refine wp_region_held_drew (S := fun W : World => Below wr.heap.size wr W ∧ W.heap[z]? = some (.cells #[.int .u32 (ta : Int), .int .u8 (tn : Int)] 30 (0, 0))) (by kernel_rfl) ⟨(Below.refl _ _).drew, HR.out.2.1⟩ (fun hHeld => ?_)
        generalize wr.drew = wd at *
        refine wpAnyH_take (i := 0) (oi := ⟨some 35, .move (.tmp 9), 3, "sort.go:167", #[], none⟩) (v := .int .i64 (i0 : Int)) rfl (by kernel_rfl) (by kernel_rfl) (by kernel_rfl) (fun _ _ _ h => h) (Or.inl ⟨by rfl, fun w hSw => by go_simp⟩) (by assumption) ?_
        try simp only [Act.put, List.setIfInBounds_toArray, List.set_cons_zero, List.set_cons_succ]
        refine wpAnyH_take (i := 1) (oi := ⟨some 36, .move (.tmp 9), 3, "sort.go:167", #[], none⟩) (v := .int .i64 (i0 : Int)) rfl (by kernel_rfl) (by kernel_rfl) (by kernel_rfl) (fun _ _ _ h => h) (Or.inl ⟨by rfl, fun w hSw => by go_simp⟩) (by assumption) ?_
        try simp only [Act.put, List.setIfInBounds_toArray, List.set_cons_zero, List.set_cons_succ]
        refine wpAnyH_take (i := 2) (oi := ⟨some 37, .move (.tmp 8), 3, "sort.go:167", #[], none⟩) (v := .int .i64 (n : Int)) rfl (by kernel_rfl) (by kernel_rfl) (by kernel_rfl) (fun _ _ _ h => h) (Or.inl ⟨by rfl, fun w hSw => by go_simp⟩) (by assumption) ?_
        try simp only [Act.put, List.setIfInBounds_toArray, List.set_cons_zero, List.set_cons_succ]
        refine wpAnyH_take (i := 3) (oi := ⟨some 38, .binOp .lss 3 (.tmp 36) (.tmp 37) 3, 4, "sort.go:167", #[⟨1, .data⟩, ⟨2, .data⟩], none⟩) (v := .bool true) rfl (by kernel_rfl) (by kernel_rfl) (by kernel_rfl) (fun _ _ _ h => h) (Or.inl ⟨by rfl, fun w hSw => by go_simp⟩) (by assumption) ?_
        try simp only [Act.put, List.setIfInBounds_toArray, List.set_cons_zero, List.set_cons_succ]
        refine wpAnyH_take (i := 4) (oi := ⟨some 39, .move (.tmp 38), 4, "sort.go:167", #[⟨3, .data⟩], none⟩) (v := .bool true) rfl (by kernel_rfl) (by kernel_rfl) (by kernel_rfl) (fun _ _ _ h => h) (Or.inl ⟨by rfl, fun w hSw => by go_simp⟩) (by assumption) ?_
        try simp only [Act.put, List.setIfInBounds_toArray, List.set_cons_zero, List.set_cons_succ]
        refine wpAnyH_take (i := 5) (oi := ⟨some 40, .move (.tmp 2), 112, "sort.go:167", #[⟨4, .guard⟩], some (4, true)⟩) (v := .func (.func 54) #[] #[]) rfl (by kernel_rfl) (by kernel_rfl) (by kernel_rfl) (fun _ _ _ h => h) (Or.inl ⟨by rfl, fun w hSw => by go_simp⟩) (by assumption) ?_
        try simp only [Act.put, List.setIfInBounds_toArray, List.set_cons_zero, List.set_cons_succ]
        refine wpAnyH_take (i := 6) (oi := ⟨some 41, .move (.tmp 0), 37, "sort.go:167", #[⟨4, .guard⟩], some (4, true)⟩) (v := .slice (some ⟨bb, oo, none⟩) n cp) rfl (by kernel_rfl) (by kernel_rfl) (by kernel_rfl) (fun _ _ _ h => h) (Or.inl ⟨by rfl, fun w hSw => by go_simp⟩) (by assumption) ?_
        try simp only [Act.put, List.setIfInBounds_toArray, List.set_cons_zero, List.set_cons_succ]
        refine wpAnyH_take (i := 7) (oi := ⟨some 42, .move (.tmp 9), 3, "sort.go:167", #[⟨4, .guard⟩], some (4, true)⟩) (v := .int .i64 (i0 : Int)) rfl (by kernel_rfl) (by kernel_rfl) (by kernel_rfl) (fun _ _ _ h => h) (Or.inl ⟨by rfl, fun w hSw => by go_simp⟩) (by assumption) ?_
        try simp only [Act.put, List.setIfInBounds_toArray, List.set_cons_zero, List.set_cons_succ]
        refine wpAnyH_take (i := 8) (oi := ⟨some 43, .indexAddr 37 (.tmp 41) (.tmp 42), 0, "sort.go:167", #[⟨6, .data⟩, ⟨7, .data⟩, ⟨4, .guard⟩], some (4, true)⟩) (v := .pointer (some ⟨bb, oo + i0 * 5, none⟩)) rfl (by kernel_rfl) (by kernel_rfl) (by kernel_rfl) (fun _ _ _ h => h) (Or.inl ⟨by rfl, fun w hSw => by go_simp⟩) (by assumption) ?_
        try simp only [Act.put, List.setIfInBounds_toArray, List.set_cons_zero, List.set_cons_succ]
        refine wpAnyH_take (i := 9) (oi := ⟨some 44, .load 40 (.tmp 43), 40, "sort.go:167", #[⟨8, .data⟩, ⟨4, .guard⟩], some (4, true)⟩) (v := .agg #[.int .u32 (r.a : Int), .int .u8 (r.n : Int), .int .i64 (r.v : Int), .int .u16 (r.m : Int), .int .u16 (r.s : Int)]) rfl (by kernel_rfl) (by kernel_rfl) (by kernel_rfl) (fun _ _ _ h => h) (Or.inl ⟨by rfl, fun w hSw => by obtain ⟨k0, k1, k2, k3, k4⟩ := HA.out.keep (hSw.1.block bb hb); go_simp⟩) (by assumption) ?_
        try simp only [Act.put, List.setIfInBounds_toArray, List.set_cons_zero, List.set_cons_succ]
        refine wpAnyH_take (i := 10) (oi := ⟨some 45, .load 30 (.tmp 4), 30, "sort.go:167", #[⟨4, .guard⟩], some (4, true)⟩) (v := .agg #[.int .u32 (ta : Int), .int .u8 (tn : Int)]) rfl (by kernel_rfl) (by kernel_rfl) (by kernel_rfl) (fun _ _ _ h => h) (Or.inl ⟨by rfl, fun w hSw => by obtain ⟨p0, p1, -⟩ := row2 hSw.2; go_simp⟩) (by assumption) ?_
        try simp only [Act.put, List.setIfInBounds_toArray, List.set_cons_zero, List.set_cons_succ]
        refine wpAnyH_ready (rs := [11]) (by kernel_rfl) (by simp) ?_
        refine AllReadyH.cons (o := ⟨some 46, .call ⟨.value (.tmp 40), #[.tmp 44, .tmp 45], #[40, 30]⟩, 3, "sort.go:167", #[⟨5, .data⟩, ⟨9, .data⟩, ⟨10, .data⟩, ⟨4, .chain⟩, ⟨4, .guard⟩], some (4, true)⟩) rfl (fun K hK => ?_) AllReadyH.nil
        go_simp
        with_reducible refine (HPE.out _).mono ?_
        rintro e w3 ⟨rfl, B3⟩
        have h3 := hHeld.1.trans (B3.mono hHeld.1.size)
        have h4 : w3.heap[z]? = _ := (B3.block _ (Array.getElem?_eq_some_iff.1 hHeld.2).1).trans hHeld.2
        refine hK.out _ _ (⟨h3, h4⟩) (fun hHeld2 => ?_)
        clear hK K hHeld
        have hHeld := hHeld2
        clear hHeld2
        try simp only [Act.put, List.setIfInBounds_toArray, List.set_cons_zero, List.set_cons_succ]
        refine wpAnyH_take (i := 12) (oi := ⟨some 47, .binOp .eql 3 (.tmp 46) (.const (.int .i64 0)) 3, 4, "sort.go:167", #[⟨11, .data⟩, ⟨4, .guard⟩, ⟨14, .gcOnly .lateStores⟩], some (4, true)⟩) (v := .bool (y == 0)) rfl (by kernel_rfl) (by kernel_rfl) (by kernel_rfl) (fun _ _ _ h => h) (Or.inl ⟨by rfl, fun w hSw => by go_simp⟩) (by assumption) ?_
        try simp only [Act.put, List.setIfInBounds_toArray, List.set_cons_zero, List.set_cons_succ]
        refine wpAnyH_take (i := 13) (oi := ⟨some 48, .pick (.tmp 39) (.tmp 47) (.const (.bool false)), 4, "sort.go:167", #[⟨4, .data⟩, ⟨12, .data⟩, ⟨14, .gcOnly .lateStores⟩], none⟩) (v := .bool (y == 0)) rfl (by kernel_rfl) (by kernel_rfl) (by kernel_rfl) (fun _ _ _ h => h) (Or.inl ⟨by rfl, fun w hSw => by go_simp⟩) (by assumption) ?_
        try simp only [Act.put, List.setIfInBounds_toArray, List.set_cons_zero, List.set_cons_succ]
        refine wpAnyH_take (i := 14) (oi := ⟨some 6, .assign (.tmp 35), 3, "sort.go:167", #[⟨0, .data⟩, ⟨11, .chain⟩, ⟨0, .phase⟩, ⟨1, .textOnly .lateStores⟩, ⟨2, .textOnly .lateStores⟩, ⟨3, .textOnly .lateStores⟩, ⟨4, .textOnly .lateStores⟩, ⟨5, .textOnly .lateStores⟩, ⟨6, .textOnly .lateStores⟩, ⟨7, .textOnly .lateStores⟩, ⟨8, .textOnly .lateStores⟩, ⟨9, .textOnly .lateStores⟩, ⟨10, .textOnly .lateStores⟩, ⟨11, .textOnly .lateStoresUnsure⟩, ⟨12, .textOnly .lateStores⟩, ⟨13, .textOnly .lateStores⟩], none⟩) (v := .int .i64 (i0 : Int)) rfl (by kernel_rfl) (by kernel_rfl) (by kernel_rfl) (fun _ _ _ h => h) (Or.inl ⟨by rfl, fun w hSw => by go_simp⟩) (by assumption) ?_
        try simp only [Act.put, List.setIfInBounds_toArray, List.set_cons_zero, List.set_cons_succ]
        refine wpAnyH_take (i := 15) (oi := ⟨some 7, .assign (.tmp 48), 4, "sort.go:167", #[⟨13, .data⟩, ⟨14, .chain⟩, ⟨0, .phase⟩, ⟨1, .phase⟩, ⟨2, .phase⟩, ⟨3, .phase⟩, ⟨4, .phase⟩, ⟨5, .phase⟩, ⟨6, .phase⟩, ⟨7, .phase⟩, ⟨8, .phase⟩, ⟨9, .phase⟩, ⟨10, .phase⟩, ⟨11, .phase⟩, ⟨12, .phase⟩, ⟨13, .phase⟩, ⟨14, .phase⟩], none⟩) (v := .bool (y == 0)) rfl (by kernel_rfl) (by kernel_rfl) (by kernel_rfl) (fun _ _ _ h => h) (Or.inl ⟨by rfl, fun w hSw => by go_simp⟩) (by assumption) ?_
        try simp only [Act.put, List.setIfInBounds_toArray, List.set_cons_zero, List.set_cons_succ]
        have HE : Hid (_ ∧ _) := And.intro hHeld.2 (HR.out.2.2.trans (hHeld.1.mono HR.out.2.2.size))
        refine wpAnyH_done (by kernel_rfl) ?_ _
        try unfold NoPanic
        go_wp2
        exact bodyPost_ret (v := .tuple #[.int .i64 ((i0 : Nat) : Int), .bool (y == 0)]) (by simp [results, Tryz.results53, go_sem]) rfl ⟨by rw [← HK.out.1, HK.out.2], HE.out.2⟩
      · have hth : gthere κ x rs = false := by
          unfold gthere
          rw [← hpp, List.getElem?_eq_none (by have := HN.out; omega)]
        have HK := Lib.hid (And.intro hpp hth)
        clear hth hpp
        go_upto_region 8 with (fail)
        refine wp_region_noPanic ?_
        refine wp_region_held_drew (S := fun W : World => Below wr.heap.size wr W ∧ W.heap[z]? = some (.cells #[.int .u32 (ta : Int), .int .u8 (tn : Int)] 30 (0, 0))) (by kernel_rfl) ⟨(Below.refl _ _).drew, HR.out.2.1⟩ (fun hHeld => ?_)
        generalize wr.drew = wd at *
        refine wpAnyH_take (i := 0) (oi := ⟨some 35, .move (.tmp 9), 3, "sort.go:167", #[], none⟩) (v := .int .i64 (i0 : Int)) rfl (by kernel_rfl) (by kernel_rfl) (by kernel_rfl) (fun _ _ _ h => h) (Or.inl ⟨by rfl, fun w hSw => by go_simp⟩) (by assumption) ?_
        try simp only [Act.put, List.setIfInBounds_toArray, List.set_cons_zero, List.set_cons_succ]
        refine wpAnyH_take (i := 1) (oi := ⟨some 36, .move (.tmp 9), 3, "sort.go:167", #[], none⟩) (v := .int .i64 (i0 : Int)) rfl (by kernel_rfl) (by kernel_rfl) (by kernel_rfl) (fun _ _ _ h => h) (Or.inl ⟨by rfl, fun w hSw => by go_simp⟩) (by assumption) ?_
        try simp only [Act.put, List.setIfInBounds_toArray, List.set_cons_zero, List.set_cons_succ]
        refine wpAnyH_take (i := 2) (oi := ⟨some 37, .move (.tmp 8), 3, "sort.go:167", #[], none⟩) (v := .int .i64 (n : Int)) rfl (by kernel_rfl) (by kernel_rfl) (by kernel_rfl) (fun _ _ _ h => h) (Or.inl ⟨by rfl, fun w hSw => by go_simp⟩) (by assumption) ?_
        try simp only [Act.put, List.setIfInBounds_toArray, List.set_cons_zero, List.set_cons_succ]
        refine wpAnyH_take (i := 3) (oi := ⟨some 38, .binOp .lss 3 (.tmp 36) (.tmp 37) 3, 4, "sort.go:167", #[⟨1, .data⟩, ⟨2, .data⟩], none⟩) (v := .bool false) rfl (by kernel_rfl) (by kernel_rfl) (by kernel_rfl) (fun _ _ _ h => h) (Or.inl ⟨by rfl, fun w hSw => by go_simp⟩) (by assumption) ?_
        try simp only [Act.put, List.setIfInBounds_toArray, List.set_cons_zero, List.set_cons_succ]
        refine wpAnyH_take (i := 4) (oi := ⟨some 39, .move (.tmp 38), 4, "sort.go:167", #[⟨3, .data⟩], none⟩) (v := .bool false) rfl (by kernel_rfl) (by kernel_rfl) (by kernel_rfl) (fun _ _ _ h => h) (Or.inl ⟨by rfl, fun w hSw => by go_simp⟩) (by assumption) ?_
        try simp only [Act.put, List.setIfInBounds_toArray, List.set_cons_zero, List.set_cons_succ]
        refine wpAnyH_take (i := 5) (oi := ⟨some 40, .move (.tmp 2), 112, "sort.go:167", #[⟨4, .guard⟩], some (4, true)⟩) (v := undef) rfl (by kernel_rfl) (by kernel_rfl) (by kernel_rfl) (fun _ _ _ h => h) (Or.inr ⟨by rfl, rfl⟩) (by assumption) ?_
        try simp only [Act.put, List.setIfInBounds_toArray, List.set_cons_zero, List.set_cons_succ]
        refine wpAnyH_take (i := 6) (oi := ⟨some 41, .move (.tmp 0), 37, "sort.go:167", #[⟨4, .guard⟩], some (4, true)⟩) (v := undef) rfl (by kernel_rfl) (by kernel_rfl) (by kernel_rfl) (fun _ _ _ h => h) (Or.inr ⟨by rfl, rfl⟩) (by assumption) ?_
        try simp only [Act.put, List.setIfInBounds_toArray, List.set_cons_zero, List.set_cons_succ]
        refine wpAnyH_take (i := 7) (oi := ⟨some 42, .move (.tmp 9), 3, "sort.go:167", #[⟨4, .guard⟩], some (4, true)⟩) (v := undef) rfl (by kernel_rfl) (by kernel_rfl) (by kernel_rfl) (fun _ _ _ h => h) (Or.inr ⟨by rfl, rfl⟩) (by assumption) ?_
        try simp only [Act.put, List.setIfInBounds_toArray, List.set_cons_zero, List.set_cons_succ]
        refine wpAnyH_take (i := 8) (oi := ⟨some 43, .indexAddr 37 (.tmp 41) (.tmp 42), 0, "sort.go:167", #[⟨6, .data⟩, ⟨7, .data⟩, ⟨4, .guard⟩], some (4, true)⟩) (v := undef) rfl (by kernel_rfl) (by kernel_rfl) (by kernel_rfl) (fun _ _ _ h => h) (Or.inr ⟨by rfl, rfl⟩) (by assumption) ?_
        try simp only [Act.put, List.setIfInBounds_toArray, List.set_cons_zero, List.set_cons_succ]
        refine wpAnyH_take (i := 9) (oi := ⟨some 44, .load 40 (.tmp 43), 40, "sort.go:167", #[⟨8, .data⟩, ⟨4, .guard⟩], some (4, true)⟩) (v := undef) rfl (by kernel_rfl) (by kernel_rfl) (by kernel_rfl) (fun _ _ _ h => h) (Or.inr ⟨by rfl, rfl⟩) (by assumption) ?_
        try simp only [Act.put, List.setIfInBounds_toArray, List.set_cons_zero, List.set_cons_succ]
        refine wpAnyH_take (i := 10) (oi := ⟨some 45, .load 30 (.tmp 4), 30, "sort.go:167", #[⟨4, .guard⟩], some (4, true)⟩) (v := undef) rfl (by kernel_rfl) (by kernel_rfl) (by kernel_rfl) (fun _ _ _ h => h) (Or.inr ⟨by rfl, rfl⟩) (by assumption) ?_
        try simp only [Act.put, List.setIfInBounds_toArray, List.set_cons_zero, List.set_cons_succ]
        refine wpAnyH_take (i := 11) (oi := ⟨some 46, .call ⟨.value (.tmp 40), #[.tmp 44, .tmp 45], #[40, 30]⟩, 3, "sort.go:167", #[⟨5, .data⟩, ⟨9, .data⟩, ⟨10, .data⟩, ⟨4, .chain⟩, ⟨4, .guard⟩], some (4, true)⟩) (v := undef) rfl (by kernel_rfl) (by kernel_rfl) (by kernel_rfl) (fun _ _ _ h => h) (Or.inr ⟨by rfl, rfl⟩) (by assumption) ?_
        try simp only [Act.put, List.setIfInBounds_toArray, List.set_cons_zero, List.set_cons_succ]
        refine wpAnyH_take (i := 12) (oi := ⟨some 47, .binOp .eql 3 (.tmp 46) (.const (.int .i64 0)) 3, 4, "sort.go:167", #[⟨11, .data⟩, ⟨4, .guard⟩, ⟨14, .gcOnly .lateStores⟩], some (4, true)⟩) (v := undef) rfl (by kernel_rfl) (by kernel_rfl) (by kernel_rfl) (fun _ _ _ h => h) (Or.inr ⟨by rfl, rfl⟩) (by assumption) ?_
        try simp only [Act.put, List.setIfInBounds_toArray, List.set_cons_zero, List.set_cons_succ]
        refine wpAnyH_take (i := 13) (oi := ⟨some 48, .pick (.tmp 39) (.tmp 47) (.const (.bool false)), 4, "sort.go:167", #[⟨4, .data⟩, ⟨12, .data⟩, ⟨14, .gcOnly .lateStores⟩], none⟩) (v := .bool false) rfl (by kernel_rfl) (by kernel_rfl) (by kernel_rfl) (fun _ _ _ h => h) (Or.inl ⟨by rfl, fun w hSw => by go_simp⟩) (by assumption) ?_
        try simp only [Act.put, List.setIfInBounds_toArray, List.set_cons_zero, List.set_cons_succ]
        refine wpAnyH_take (i := 14) (oi := ⟨some 6, .assign (.tmp 35), 3, "sort.go:167", #[⟨0, .data⟩, ⟨11, .chain⟩, ⟨0, .phase⟩, ⟨1, .textOnly .lateStores⟩, ⟨2, .textOnly .lateStores⟩, ⟨3, .textOnly .lateStores⟩, ⟨4, .textOnly .lateStores⟩, ⟨5, .textOnly .lateStores⟩, ⟨6, .textOnly .lateStores⟩, ⟨7, .textOnly .lateStores⟩, ⟨8, .textOnly .lateStores⟩, ⟨9, .textOnly .lateStores⟩, ⟨10, .textOnly .lateStores⟩, ⟨11, .textOnly .lateStoresUnsure⟩, ⟨12, .textOnly .lateStores⟩, ⟨13, .textOnly .lateStores⟩], none⟩) (v := .int .i64 (i0 : Int)) rfl (by kernel_rfl) (by kernel_rfl) (by kernel_rfl) (fun _ _ _ h => h) (Or.inl ⟨by rfl, fun w hSw => by go_simp⟩) (by assumption) ?_
        try simp only [Act.put, List.setIfInBounds_toArray, List.set_cons_zero, List.set_cons_succ]
        refine wpAnyH_take (i := 15) (oi := ⟨some 7, .assign (.tmp 48), 4, "sort.go:167", #[⟨13, .data⟩, ⟨14, .chain⟩, ⟨0, .phase⟩, ⟨1, .phase⟩, ⟨2, .phase⟩, ⟨3, .phase⟩, ⟨4, .phase⟩, ⟨5, .phase⟩, ⟨6, .phase⟩, ⟨7, .phase⟩, ⟨8, .phase⟩, ⟨9, .phase⟩, ⟨10, .phase⟩, ⟨11, .phase⟩, ⟨12, .phase⟩, ⟨13, .phase⟩, ⟨14, .phase⟩], none⟩) (v := .bool false) rfl (by kernel_rfl) (by kernel_rfl) (by kernel_rfl) (fun _ _ _ h => h) (Or.inl ⟨by rfl, fun w hSw => by go_simp⟩) (by assumption) ?_
        try simp only [Act.put, List.setIfInBounds_toArray, List.set_cons_zero, List.set_cons_succ]
        have HE : Hid (_ ∧ _) := And.intro hHeld.2 (HR.out.2.2.trans (hHeld.1.mono HR.out.2.2.size))
        refine wpAnyH_done (by kernel_rfl) ?_ _
        try unfold NoPanic
        go_wp2
        exact bodyPost_ret (v := .tuple #[.int .i64 ((i0 : Nat) : Int), .bool false]) (by simp [results, Tryz.results53, go_sem]) rfl ⟨by rw [← HK.out.1, HK.out.2], HE.out.2⟩
end Go.Proofs.YtjbogjbopgcbhaaGreatDoor.Eg
namespace Go.Proofs.YtjbogjbopgcbhaaGreatDoor.Eg
open Pre Ser Rts
open Go.Proofs.YtjbogjbopgcbhaaGreatDoor.Src (row1 row2 Mk SrcAt)
open Go.Proofs.YtjbogjbopgcbhaaGreatDoor.Lk (LkAt)
open Go.ChangeShapes Go.WideShapes Go.ChangeAt Go.RowKit
set_option maxRecDepth 8000
set_option linter.unusedVariables false
set_option linter.unusedSimpArgs false
set_option maxHeartbeats 4000000 in
theorem bsfPx_any (w : World) (A : Option Addr) (n cp : Nat) (rs : List (Nat × Nat)) (hn : n = rs.length) (hmax : n ≤ 1000000) (hc : GSl 2 clP w A rs) (κ : Nat × Nat → Nat) (x : Nat) (hup : GUp κ rs) (ta tn : Nat) (cm : Nat × Nat → Int) (hcm : ∀ e ∈ rs, (cm e < 0 ↔ κ e < x) ∧ (cm e = 0 ↔ κ e = x))
    (hp : ∀ (W : World) (e : Nat × Nat), e ∈ rs → Calls Tryz.prog 50 #[.agg #[.int .u32 (e.1 : Int), .int .u8 (e.2 : Int)], .agg #[.int .u32 (ta : Int), .int .u8 (tn : Int)]] W fun en w' => en = .returned (.int .i64 (cm e)) ∧ Below W.heap.size W w') :
    Calls Tryz.prog 145 #[.slice A n cp, .agg #[.int .u32 (ta : Int), .int .u8 (tn : Int)], .func (.func 50) #[] #[]] w fun e w' => e = .returned (.tuple #[.int .i64 ((gpos κ x rs : Nat) : Int), .bool (gthere κ x rs)]) ∧ Below w.heap.size w w' := by
  have HN := Lib.hid hn
  have HC := Lib.hid hc
  have HU := Lib.hid hup
  have HCM := Lib.hid hcm
  have HP := Lib.hid hp
  have R0 := heap_alloc_new w (.cells #[.int .u32 (ta : Int), .int .u8 (tn : Int)] 30)
  have B0 : Below w.heap.size w (w.alloc (.cells #[.int .u32 (ta : Int), .int .u8 (tn : Int)] 30)) := (Below.refl _ _).alloc (Nat.le_refl _) _
  clear hn hc hup hcm hp
  go_enter Tryz.func145, Tryz.ntmps145
  go_wp2
  generalize w.alloc _ = w1 at *
  obtain ⟨z, hz⟩ : ∃ z, z = w.heap.size := ⟨_, rfl⟩
  rw [← hz] at R0
  have HZ := Lib.hid hz
  try rw [← hz]
  clear hz
  go_loopw [9, 10] (fun i j wr => ∃ i0 : Nat, i = .int .i64 i0 ∧ ∃ j0 : Nat, i0 ≤ j0 ∧ j0 ≤ n ∧ j = .int .i64 j0 ∧ Hid (GPart κ rs x i0 j0 ∧ wr.heap[z]? = some (.cells #[.int .u32 (ta : Int), .int .u8 (tn : Int)] 30 (0, 0)) ∧ Below w.heap.size w wr)) (fun i j _ => (intOf j - intOf i).toNat)
  case atStart => exact ⟨0, rfl, n, by omega, by omega, rfl, ⟨fun l hl h => by omega, fun l hl h => by have := HN.out; omega⟩, R0, B0⟩
  case round =>
    obtain ⟨i0, rfl, j0, hij, hjn, rfl, HR⟩ := hrel
    clear R0 B0
    by_cases hlt : i0 < j0
    · obtain ⟨h, hh, hh1, hh2⟩ : ∃ h : Nat, h = (i0 + j0) / 2 ∧ i0 ≤ h ∧ h < j0 := ⟨(i0 + j0) / 2, rfl, by omega, by omega⟩
      have hhn : h < rs.length := by have := HN.out; omega
      obtain ⟨bb, oo, ea, hb, hca0⟩ := (HC.out.below HR.out.2.2) h hhn
      subst ea
      have hca := PxAt.of hca0
      clear hca0
      have hkey := (HCM.out _ (List.getElem_mem hhn)).1
      have HL0 := fun hx => HR.out.1.left HU.out hhn hx
      have HG0 := fun hx => HR.out.1.right HU.out hhn hx
      have HPE := Lib.hid (fun W => HP.out W rs[h] (List.getElem_mem hhn))
      generalize hr : rs[h] = r at *
      clear hr
      obtain ⟨y, hy⟩ : ∃ y, y = cm r := ⟨_, rfl⟩
      rw [← hy] at HPE hkey
      clear hy
      have hsum : IntKind.i64.wrap ((i0 : Int) + (j0 : Int)) = (i0 : Int) + j0 := by rw [IntKind.wrap_i64]; omega
      have hd : ((i0 : Int) + (j0 : Int)) / 2 = (h : Int) := by omega
      have HL := Lib.hid HL0
      have HG := Lib.hid HG0
      have HK := Lib.hid hkey
      clear hh hkey HL0 HG0
      have HA := Lib.hid hca
      clear hca
      have hhn2 : h < n := by omega
      go_upto_region 5 with (fail)
      clear hd hsum
      refine wp_region_noPanic ?_
      refine wp_region_held_drew (S := fun W : World => Below wr.heap.size wr W ∧ W.heap[z]? = some (.cells #[.int .u32 (ta : Int), .int .u8 (tn : Int)] 30 (0, 0))) (by kernel_rfl) ⟨(Below.refl _ _).drew, HR.out.2.1⟩ (fun hHeld => ?_)
      generalize wr.drew = wd at *
      refine wpAnyH_take (i := 0) (oi := ⟨some 24, .move (.tmp 2), 107, "sort.go:160", #[], none⟩) (v := .func (.func 50) #[] #[]) rfl (by kernel_rfl) (by kernel_rfl) (by kernel_rfl) (fun _ _ _ h => h) (Or.inl ⟨by rfl, fun w hSw => by go_simp⟩) (by assumption) ?_
      try simp only [Act.put, List.setIfInBounds_toArray, List.set_cons_zero, List.set_cons_succ]
      refine wpAnyH_take (i := 1) (oi := ⟨some 25, .move (.tmp 0), 64, "sort.go:160", #[], none⟩) (v := .slice (some ⟨bb, oo, none⟩) n cp) rfl (by kernel_rfl) (by kernel_rfl) (by kernel_rfl) (fun _ _ _ h => h) (Or.inl ⟨by rfl, fun w hSw => by go_simp⟩) (by assumption) ?_
      try simp only [Act.put, List.setIfInBounds_toArray, List.set_cons_zero, List.set_cons_succ]
      refine wpAnyH_take (i := 2) (oi := ⟨some 26, .move (.tmp 11), 3, "sort.go:160", #[], none⟩) (v := .int .i64 (h : Int)) rfl (by kernel_rfl) (by kernel_rfl) (by kernel_rfl) (fun _ _ _ h => h) (Or.inl ⟨by rfl, fun w hSw => by go_simp⟩) (by assumption) ?_
      try simp only [Act.put, List.setIfInBounds_toArray, List.set_cons_zero, List.set_cons_succ]
      refine wpAnyH_take (i := 3) (oi := ⟨some 27, .indexAddr 64 (.tmp 25) (.tmp 26), 0, "sort.go:160", #[⟨1, .data⟩, ⟨2, .data⟩], none⟩) (v := .pointer (some ⟨bb, oo + h * 2, none⟩)) rfl (by kernel_rfl) (by kernel_rfl) (by kernel_rfl) (fun _ _ _ h => h) (Or.inl ⟨by rfl, fun w hSw => by go_simp⟩) (by assumption) ?_
      try simp only [Act.put, List.setIfInBounds_toArray, List.set_cons_zero, List.set_cons_succ]
      refine wpAnyH_take (i := 4) (oi := ⟨some 28, .load 30 (.tmp 27), 30, "sort.go:160", #[⟨3, .data⟩], none⟩) (v := .agg #[.int .u32 (r.1 : Int), .int .u8 (r.2 : Int)]) rfl (by kernel_rfl) (by kernel_rfl) (by kernel_rfl) (fun _ _ _ h => h) (Or.inl ⟨by rfl, fun w hSw => by obtain ⟨k0, k1⟩ := HA.out.keep (hSw.1.block bb hb); go_simp⟩) (by assumption) ?_
      try simp only [Act.put, List.setIfInBounds_toArray, List.set_cons_zero, List.set_cons_succ]
      refine wpAnyH_take (i := 5) (oi := ⟨some 29, .load 30 (.tmp 4), 30, "sort.go:160", #[], none⟩) (v := .agg #[.int .u32 (ta : Int), .int .u8 (tn : Int)]) rfl (by kernel_rfl) (by kernel_rfl) (by kernel_rfl) (fun _ _ _ h => h) (Or.inl ⟨by rfl, fun w hSw => by obtain ⟨p0, p1, -⟩ := row2 hSw.2; go_simp⟩) (by assumption) ?_
      try simp only [Act.put, List.setIfInBounds_toArray, List.set_cons_zero, List.set_cons_succ]
      refine wpAnyH_ready (rs := [6]) (by kernel_rfl) (by simp) ?_
      refine AllReadyH.cons (o := ⟨some 30, .call ⟨.value (.tmp 24), #[.tmp 28, .tmp 29], #[30, 30]⟩, 3, "sort.go:160", #[⟨0, .data⟩, ⟨4, .data⟩, ⟨5, .data⟩], none⟩) rfl (fun K hK => ?_) AllReadyH.nil
      go_simp
      with_reducible refine (HPE.out _).mono ?_
      rintro e w3 ⟨rfl, B3⟩
      have h3 := hHeld.1.trans (B3.mono hHeld.1.size)
      have h4 : w3.heap[z]? = _ := (B3.block _ (Array.getElem?_eq_some_iff.1 hHeld.2).1).trans hHeld.2
      refine hK.out _ _ (⟨h3, h4⟩) (fun hHeld2 => ?_)
      clear hK K hHeld
      have hHeld := hHeld2
      clear hHeld2
      try simp only [Act.put, List.setIfInBounds_toArray, List.set_cons_zero, List.set_cons_succ]
      refine wpAnyH_take (i := 7) (oi := ⟨some 31, .binOp .lss 3 (.tmp 30) (.const (.int .i64 0)) 3, 4, "sort.go:160", #[⟨6, .data⟩], none⟩) (v := .bool (decide (y < 0))) rfl (by kernel_rfl) (by kernel_rfl) (by kernel_rfl) (fun _ _ _ h => h) (Or.inl ⟨by rfl, fun w hSw => by go_simp⟩) (by assumption) ?_
      try simp only [Act.put, List.setIfInBounds_toArray, List.set_cons_zero, List.set_cons_succ]
      have HE : Hid (_ ∧ _) := And.intro hHeld.2 (HR.out.2.2.trans (hHeld.1.mono HR.out.2.2.size))
      refine wpAnyH_done (by kernel_rfl) ?_ _
      try unfold NoPanic
      by_cases hx : κ r < x
      · have hx1 : decide (y < 0) = true := decide_eq_true (HK.out.2 hx)
        have HN5 := HL.out hx
        go_wp2
        go_roundw
        case rel => exact ⟨h + 1, by go_num, j0, by omega, by omega, rfl, ⟨HN5, HE.out⟩⟩
        case measure => simp [intOf]; omega
      · have hx1 : decide (y < 0) = false := decide_eq_false (fun e => hx (HK.out.1 e))
        have HN5 := HG.out hx
        go_wp2
        go_roundw
        case rel => exact ⟨i0, rfl, h, by omega, by omega, rfl, ⟨HN5, HE.out⟩⟩
        case measure => simp [intOf]; omega
    · obtain rfl : i0 = j0 := by omega
      have hp : i0 = gpos κ x rs := gpos_of HU.out (by have := HN.out; omega) HR.out.1.1 HR.out.1.2
      obtain ⟨p, hpp⟩ : ∃ p, p = gpos κ x rs := ⟨_, rfl⟩
      rw [← hpp] at hp
      subst hp
      by_cases hpn : i0 < n
      · have hhn : i0 < rs.length := by have := HN.out; omega
        obtain ⟨bb, oo, ea, hb, hca0⟩ := (HC.out.below HR.out.2.2) i0 hhn
        subst ea
        have hca := PxAt.of hca0
        clear hca0
        have hkey := (HCM.out _ (List.getElem_mem hhn)).2
        have hth : gthere κ x rs = (κ rs[i0] == x) := by
          unfold gthere
          rw [← hpp, List.getElem?_eq_getElem hhn]
        have HPE := Lib.hid (fun W => HP.out W rs[i0] (List.getElem_mem hhn))
        generalize hr : rs[i0] = r at *
        clear hr
        obtain ⟨y, hy⟩ : ∃ y, y = cm r := ⟨_, rfl⟩
        rw [← hy] at HPE hkey
        clear hy
        have hbl : (y == 0) = (κ r == x) := by
          by_cases h : κ r = x
          · rw [beq_iff_eq.2 (hkey.2 h), beq_iff_eq.2 h]
          · have h' : ¬ (y = 0) := fun e => h (hkey.1 e)
            rw [beq_eq_false_iff_ne.2 h', beq_eq_false_iff_ne.2 h]
        have HK := Lib.hid (And.intro hpp (hth.trans hbl.symm))
        have HA := Lib.hid hca
        clear hca hkey hth hbl hpp
        go_upto_region 8 with (fail)
        refine wp_region_noPanic ?_
        refine wp_region_held_drew (S := fun W : World => Below wr.heap.size wr W ∧ W.heap[z]? = some (.cells #[.int .u32 (ta : Int), .int .u8 (tn : Int)] 30 (0, 0))) (by kernel_rfl) ⟨(Below.refl _ _).drew, HR.out.2.1⟩ (fun hHeld => ?_)
        generalize wr.drew = wd at *
        refine wpAnyH_take (i := 0) (oi := ⟨some 35, .move (.tmp 9), 3, "sort.go:167", #[], none⟩) (v := .int .i64 (i0 : Int)) rfl (by kernel_rfl) (by kernel_rfl) (by kernel_rfl) (fun _ _ _ h => h) (Or.inl ⟨by rfl, fun w hSw => by go_simp⟩) (by assumption) ?_
        try simp only [Act.put, List.setIfInBounds_toArray, List.set_cons_zero, List.set_cons_succ]
        refine wpAnyH_take (i := 1) (oi := ⟨some 36, .move (.tmp 9), 3, "sort.go:167", #[], none⟩) (v := .int .i64 (i0 : Int)) rfl (by kernel_rfl) (by kernel_rfl) (by kernel_rfl) (fun _ _ _ h => h) (Or.inl ⟨by rfl, fun w hSw => by go_simp⟩) (by assumption) ?_
        try simp only [Act.put, List.setIfInBounds_toArray, List.set_cons_zero, List.set_cons_succ]
        refine wpAnyH_take (i := 2) (oi := ⟨some 37, .move (.tmp 8), 3, "sort.go:167", #[], none⟩) (v := .int .i64 (n : Int)) rfl (by kernel_rfl) (by kernel_rfl) (by kernel_rfl) (fun _ _ _ h => h) (Or.inl ⟨by rfl, fun w hSw => by go_simp⟩) (by assumption) ?_
        try simp only [Act.put, List.setIfInBounds_toArray, List.set_cons_zero, List.set_cons_succ]
        refine wpAnyH_take (i := 3) (oi := ⟨some 38, .binOp .lss 3 (.tmp 36) (.tmp 37) 3, 4, "sort.go:167", #[⟨1, .data⟩, ⟨2, .data⟩], none⟩) (v := .bool true) rfl (by kernel_rfl) (by kernel_rfl) (by kernel_rfl) (fun _ _ _ h => h) (Or.inl ⟨by rfl, fun w hSw => by go_simp⟩) (by assumption) ?_
        try simp only [Act.put, List.setIfInBounds_toArray, List.set_cons_zero, List.set_cons_succ]
        refine wpAnyH_take (i := 4) (oi := ⟨some 39, .move (.tmp 38), 4, "sort.go:167", #[⟨3, .data⟩], none⟩) (v := .bool true) rfl (by kernel_rfl) (by kernel_rfl) (by kernel_rfl) (fun _ _ _ h => h) (Or.inl ⟨by rfl, fun w hSw => by go_simp⟩) (by assumption) ?_
        try simp only [Act.put, List.setIfInBounds_toArray, List.set_cons_zero, List.set_cons_succ]
        refine wpAnyH_take (i := 5) (oi := ⟨some 40, .move (.tmp 2), 107, "sort.go:167", #[⟨4, .guard⟩], some (4, true)⟩) (v := .func (.func 50) #[] #[]) rfl (by kernel_rfl) (by kernel_rfl) (by kernel_rfl) (fun _ _ _ h => h) (Or.inl ⟨by rfl, fun w hSw => by go_simp⟩) (by assumption) ?_
        try simp only [Act.put, List.setIfInBounds_toArray, List.set_cons_zero, List.set_cons_succ]
        refine wpAnyH_take (i := 6) (oi := ⟨some 41, .move (.tmp 0), 64, "sort.go:167", #[⟨4, .guard⟩], some (4, true)⟩) (v := .slice (some ⟨bb, oo, none⟩) n cp) rfl (by kernel_rfl) (by kernel_rfl) (by kernel_rfl) (fun _ _ _ h => h) (Or.inl ⟨by rfl, fun w hSw => by go_simp⟩) (by assumption) ?_
        try simp only [Act.put, List.setIfInBounds_toArray, List.set_cons_zero, List.set_cons_succ]
        refine wpAnyH_take (i := 7) (oi := ⟨some 42, .move (.tmp 9), 3, "sort.go:167", #[⟨4, .guard⟩], some (4, true)⟩) (v := .int .i64 (i0 : Int)) rfl (by kernel_rfl) (by kernel_rfl) (by kernel_rfl) (fun _ _ _ h => h) (Or.inl ⟨by rfl, fun w hSw => by go_simp⟩) (by assumption) ?_
        try simp only [Act.put, List.setIfInBounds_toArray, List.set_cons_zero, List.set_cons_succ]
        refine wpAnyH_take (i := 8) (oi := ⟨some 43, .indexAddr 64 (.tmp 41) (.tmp 42), 0, "sort.go:167", #[⟨6, .data⟩, ⟨7, .data⟩, ⟨4, .guard⟩], some (4, true)⟩) (v := .pointer (some ⟨bb, oo + i0 * 2, none⟩)) rfl (by kernel_rfl) (by kernel_rfl) (by kernel_rfl) (fun _ _ _ h => h) (Or.inl ⟨by rfl, fun w hSw => by go_simp⟩) (by assumption) ?_
        try simp only [Act.put, List.setIfInBounds_toArray, List.set_cons_zero, List.set_cons_succ]
        refine wpAnyH_take (i := 9) (oi := ⟨some 44, .load 30 (.tmp 43), 30, "sort.go:167", #[⟨8, .data⟩, ⟨4, .guard⟩], some (4, true)⟩) (v := .agg #[.int .u32 (r.1 : Int), .int .u8 (r.2 : Int)]) rfl (by kernel_rfl) (by kernel_rfl) (by kernel_rfl) (fun _ _ _ h => h) (Or.inl ⟨by rfl, fun w hSw => by obtain ⟨k0, k1⟩ := HA.out.keep (hSw.1.block bb hb); go_simp⟩) (by assumption) ?_
        try simp only [Act.put, List.setIfInBounds_toArray, List.set_cons_zero, List.set_cons_succ]
        refine wpAnyH_take (i := 10) (oi := ⟨some 45, .load 30 (.tmp 4), 30, "sort.go:167", #[⟨4, .guard⟩], some (4, true)⟩) (v := .agg #[.int .u32 (ta : Int), .int .u8 (tn : Int)]) rfl (by kernel_rfl) (by kernel_rfl) (by kernel_rfl) (fun _ _ _ h => h) (Or.inl ⟨by rfl, fun w hSw => by obtain ⟨p0, p1, -⟩ := row2 hSw.2; go_simp⟩) (by assumption) ?_
        try simp only [Act.put, List.setIfInBounds_toArray, List.set_cons_zero, List.set_cons_succ]
        refine wpAnyH_ready (rs := [11]) (by kernel_rfl) (by simp) ?_
        refine AllReadyH.cons (o := ⟨some 46, .call ⟨.value (.tmp 40), #[.tmp 44, .tmp 45], #[30, 30]⟩, 3, "sort.go:167", #[⟨5, .data⟩, ⟨9, .data⟩, ⟨10, .data⟩, ⟨4, .chain⟩, ⟨4, .guard⟩], some (4, true)⟩) rfl (fun K hK => ?_) AllReadyH.nil
        go_simp
        with_reducible refine (HPE.out _).mono ?_
        rintro e w3 ⟨rfl, B3⟩
        have h3 := hHeld.1.trans (B3.mono hHeld.1.size)
        have h4 : w3.heap[z]? = _ := (B3.block _ (Array.getElem?_eq_some_iff.1 hHeld.2).1).trans hHeld.2
        refine hK.out _ _ (⟨h3, h4⟩) (fun hHeld2 => ?_)
        clear hK K hHeld
        have hHeld := hHeld2
        clear hHeld2
        try simp only [Act.put, List.setIfInBounds_toArray, List.set_cons_zero, List.set_cons_succ]
        refine wpAnyH_take (i := 12) (oi := ⟨some 47, .binOp .eql 3 (.tmp 46) (.const (.int .i64 0)) 3, 4, "sort.go:167", #[⟨11, .data⟩, ⟨4, .guard⟩, ⟨14, .gcOnly .lateStores⟩], some (4, true)⟩) (v := .bool (y == 0)) rfl (by kernel_rfl) (by kernel_rfl) (by kernel_rfl) (fun _ _ _ h => h) (Or.inl ⟨by rfl, fun w hSw => by go_simp⟩) (by assumption) ?_
        try simp only [Act.put, List.setIfInBounds_toArray, List.set_cons_zero, List.set_cons_succ]
        refine wpAnyH_take (i := 13) (oi := ⟨some 48, .pick (.tmp 39) (.tmp 47) (.const (.bool false)), 4, "sort.go:167", #[⟨4, .data⟩, ⟨12, .data⟩, ⟨14, .gcOnly .lateStores⟩], none⟩) (v := .bool (y == 0)) rfl (by kernel_rfl) (by kernel_rfl) (by kernel_rfl) (fun _ _ _ h => h) (Or.inl ⟨by rfl, fun w hSw => by go_simp⟩) (by assumption) ?_
        try simp only [Act.put, List.setIfInBounds_toArray, List.set_cons_zero, List.set_cons_succ]
        refine wpAnyH_take (i := 14) (oi := ⟨some 6, .assign (.tmp 35), 3, "sort.go:167", #[⟨0, .data⟩, ⟨11, .chain⟩, ⟨0, .phase⟩, ⟨1, .textOnly .lateStores⟩, ⟨2, .textOnly .lateStores⟩, ⟨3, .textOnly .lateStores⟩, ⟨4, .textOnly .lateStores⟩, ⟨5, .textOnly .lateStores⟩, ⟨6, .textOnly .lateStores⟩, ⟨7, .textOnly .lateStores⟩, ⟨8, .textOnly .lateStores⟩, ⟨9, .textOnly .lateStores⟩, ⟨10, .textOnly .lateStores⟩, ⟨11, .textOnly .lateStoresUnsure⟩, ⟨12, .textOnly .lateStores⟩, ⟨13, .textOnly .lateStores⟩], none⟩) (v := .int .i64 (i0 : Int)) rfl (by kernel_rfl) (by kernel_rfl) (by kernel_rfl) (fun _ _ _ h => h) (Or.inl ⟨by rfl, fun w hSw => by go_simp⟩) (by assumption) ?_
        try simp only [Act.put, List.setIfInBounds_toArray, List.set_cons_zero, List.set_cons_succ]
        refine wpAnyH_take (i := 15) (oi := ⟨some 7, .assign (.tmp 48), 4, "sort.go:167", #[⟨13, .data⟩, ⟨14, .chain⟩, ⟨0, .phase⟩, ⟨1, .phase⟩, ⟨2, .phase⟩, ⟨3, .phase⟩, ⟨4, .phase⟩, ⟨5, .phase⟩, ⟨6, .phase⟩, ⟨7, .phase⟩, ⟨8, .phase⟩, ⟨9, .phase⟩, ⟨10, .phase⟩, ⟨11, .phase⟩, ⟨12, .phase⟩, ⟨13, .phase⟩, ⟨14, .phase⟩], none⟩) (v := .bool (y == 0)) rfl (by kernel_rfl) (by kernel_rfl) (by kernel_rfl) (fun _ _ _ h => h) (Or.inl ⟨by rfl, fun w hSw => by go_simp⟩) (by assumption) ?_
        try simp only [Act.put, List.setIfInBounds_toArray, List.set_cons_zero, List.set_cons_succ]
        have HE : Hid (_ ∧ _) := And.intro hHeld.2 (HR.out.2.2.trans (hHeld.1.mono HR.out.2.2.size))
        refine wpAnyH_done (by kernel_rfl) ?_ _
        try unfold NoPanic
        go_wp2
        exact bodyPost_ret (v := .tuple #[.int .i64 ((i0 : Nat) : Int), .bool (y == 0)]) (by simp [results, Tryz.results145, go_sem]) rfl ⟨by rw [← HK.out.1, HK.out.2], HE.out.2⟩
      · have hth : gthere κ x rs = false := by
          unfold gthere
          rw [← hpp, List.getElem?_eq_none (by have := HN.out; omega)]
        have HK := Lib.hid (And.intro hpp hth)
        clear hth hpp
        go_upto_region 8 with (fail)
        refine wp_region_noPanic ?_
        refine wp_region_held_drew (S := fun W : World => Below wr.heap.size wr W ∧ W.heap[z]? = some (.cells #[.int .u32 (ta : Int), .int .u8 (tn : Int)] 30 (0, 0))) (by kernel_rfl) ⟨(Below.refl _ _).drew, HR.out.2.1⟩ (fun hHeld => ?_)
        generalize wr.drew = wd at *
        refine wpAnyH_take (i := 0) (oi := ⟨some 35, .move (.tmp 9), 3, "sort.go:167", #[], none⟩) (v := .int .i64 (i0 : Int)) rfl (by kernel_rfl) (by kernel_rfl) (by kernel_rfl) (fun _ _ _ h => h) (Or.inl ⟨by rfl, fun w hSw => by go_simp⟩) (by assumption) ?_
        try simp only [Act.put, List.setIfInBounds_toArray, List.set_cons_zero, List.set_cons_succ]
        refine wpAnyH_take (i := 1) (oi := ⟨some 36, .move (.tmp 9), 3, "sort.go:167", #[], none⟩) (v := .int .i64 (i0 : Int)) rfl (by kernel_rfl) (by kernel_rfl) (by kernel_rfl) (fun _ _ _ h => h) (Or.inl ⟨by rfl, fun w hSw => by go_simp⟩) (by assumption) ?_
        try simp only [Act.put, List.setIfInBounds_toArray, List.set_cons_zero, List.set_cons_succ]
        refine wpAnyH_take (i := 2) (oi := ⟨some 37, .move (.tmp 8), 3, "sort.go:167", #[], none⟩) (v := .int .i64 (n : Int)) rfl (by kernel_rfl) (by kernel_rfl) (by kernel_rfl) (fun _ _ _ h => h) (Or.inl ⟨by rfl, fun w hSw => by go_simp⟩) (by assumption) ?_
        try simp only [Act.put, List.setIfInBounds_toArray, List.set_cons_zero, List.set_cons_succ]
        refine wpAnyH_take (i := 3) (oi := ⟨some 38, .binOp .lss 3 (.tmp 36) (.tmp 37) 3, 4, "sort.go:167", #[⟨1, .data⟩, ⟨2, .data⟩], none⟩) (v := .bool false) rfl (by kernel_rfl) (by kernel_rfl) (by kernel_rfl) (fun _ _ _ h => h) (Or.inl ⟨by rfl, fun w hSw => by go_simp⟩) (by assumption) ?_
        try simp only [Act.put, List.setIfInBounds_toArray, List.set_cons_zero, List.set_cons_succ]
        refine wpAnyH_take (i := 4) (oi := ⟨some 39, .move (.tmp 38), 4, "sort.go:167", #[⟨3, .data⟩], none⟩) (v := .bool false) rfl (by kernel_rfl) (by kernel_rfl) (by kernel_rfl) (fun _ _ _ h => h) (Or.inl ⟨by rfl, fun w hSw => by go_simp⟩) (by assumption) ?_
        try simp only [Act.put, List.setIfInBounds_toArray, List.set_cons_zero, List.set_cons_succ]
        refine wpAnyH_take (i := 5) (oi := ⟨some 40, .move (.tmp 2), 107, "sort.go:167", #[⟨4, .guard⟩], some (4, true)⟩) (v := undef) rfl (by kernel_rfl) (by kernel_rfl) (by kernel_rfl) (fun _ _ _ h => h) (Or.inr ⟨by rfl, rfl⟩) (by assumption) ?_
        try simp only [Act.put, List.setIfInBounds_toArray, List.set_cons_zero, List.set_cons_succ]
        refine wpAnyH_take (i := 6) (oi := ⟨some 41, .move (.tmp 0), 64, "sort.go:167", #[⟨4, .guard⟩], some (4, true)⟩) (v := undef) rfl (by kernel_rfl) (by kernel_rfl) (by kernel_rfl) (fun _ _ _ h => h) (Or.inr ⟨by rfl, rfl⟩) (by assumption) ?_
        try simp only [Act.put, List.setIfInBounds_toArray, List.set_cons_zero, List.set_cons_succ]
        refine wpAnyH_take (i := 7) (oi := ⟨some 42, .move (.tmp 9), 3, "sort.go:167", #[⟨4, .guard⟩], some (4, true)⟩) (v := undef) rfl (by kernel_rfl) (by kernel_rfl) (by kernel_rfl) (fun _ _ _ h => h) (Or.inr ⟨by rfl, rfl⟩) (by assumption) ?_
        try simp only [Act.put, List.setIfInBounds_toArray, List.set_cons_zero, List.set_cons_succ]
        refine wpAnyH_take (i := 8) (oi := ⟨some 43, .indexAddr 64 (.tmp 41) (.tmp 42), 0, "sort.go:167", #[⟨6, .data⟩, ⟨7, .data⟩, ⟨4, .guard⟩], some (4, true)⟩) (v := undef) rfl (by kernel_rfl) (by kernel_rfl) (by kernel_rfl) (fun _ _ _ h => h) (Or.inr ⟨by rfl, rfl⟩) (by assumption) ?_
        try simp only [Act.put, List.setIfInBounds_toArray, List.set_cons_zero, List.set_cons_succ]
        refine wpAnyH_take (i := 9) (oi := ⟨some 44, .load 30 (.tmp 43), 30, "sort.go:167", #[⟨8, .data⟩, ⟨4, .guard⟩], some (4, true)⟩) (v := undef) rfl (by kernel_rfl) (by kernel_rfl) (by kernel_rfl) (fun _ _ _ h => h) (Or.inr ⟨by rfl, rfl⟩) (by assumption) ?_
        try simp only [Act.put, List.setIfInBounds_toArray, List.set_cons_zero, List.set_cons_succ]
        refine wpAnyH_take (i := 10) (oi := ⟨some 45, .load 30 (.tmp 4), 30, "sort.go:167", #[⟨4, .guard⟩], some (4, true)⟩) (v := undef) rfl (by kernel_rfl) (by kernel_rfl) (by kernel_rfl) (fun _ _ _ h => h) (Or.inr ⟨by rfl, rfl⟩) (by assumption) ?_
        try simp only [Act.put, List.setIfInBounds_toArray, List.set_cons_zero, List.set_cons_succ]
        refine wpAnyH_take (i := 11) (oi := ⟨some 46, .call ⟨.value (.tmp 40), #[.tmp 44, .tmp 45], #[30, 30]⟩, 3, "sort.go:167", #[⟨5, .data⟩, ⟨9, .data⟩, ⟨10, .data⟩, ⟨4, .chain⟩, ⟨4, .guard⟩], some (4, true)⟩) (v := undef) rfl (by kernel_rfl) (by kernel_rfl) (by kernel_rfl) (fun _ _ _ h => h) (Or.inr ⟨by rfl, rfl⟩) (by assumption) ?_
        try simp only [Act.put, List.setIfInBounds_toArray, List.set_cons_zero, List.set_cons_succ]
        refine wpAnyH_take (i := 12) (oi := ⟨some 47, .binOp .eql 3 (.tmp 46) (.const (.int .i64 0)) 3, 4, "sort.go:167", #[⟨11, .data⟩, ⟨4, .guard⟩, ⟨14, .gcOnly .lateStores⟩], some (4, true)⟩) (v := undef) rfl (by kernel_rfl) (by kernel_rfl) (by kernel_rfl) (fun _ _ _ h => h) (Or.inr ⟨by rfl, rfl⟩) (by assumption) ?_
        try simp only [Act.put, List.setIfInBounds_toArray, List.set_cons_zero, List.set_cons_succ]
        refine wpAnyH_take (i := 13) (oi := ⟨some 48, .pick (.tmp 39) (.tmp 47) (.const (.bool false)), 4, "sort.go:167", #[⟨4, .data⟩, ⟨12, .data⟩, ⟨14, .gcOnly .lateStores⟩], none⟩) (v := .bool false) rfl (by kernel_rfl) (by kernel_rfl) (by kernel_rfl) (fun _ _ _ h => h) (Or.inl ⟨by rfl, fun w hSw => by go_simp⟩) (by assumption) ?_
        try simp only [Act.put, List.setIfInBounds_toArray, List.set_cons_zero, List.set_cons_succ]
        refine wpAnyH_take (i := 14) (oi := ⟨some 6, .assign (.tmp 35), 3, "sort.go:167", #[⟨0, .data⟩, ⟨11, .chain⟩, ⟨0, .phase⟩, ⟨1, .textOnly .lateStores⟩, ⟨2, .textOnly .lateStores⟩, ⟨3, .textOnly .lateStores⟩, ⟨4, .textOnly .lateStores⟩, ⟨5, .textOnly .lateStores⟩, ⟨6, .textOnly .lateStores⟩, ⟨7, .textOnly .lateStores⟩, ⟨8, .textOnly .lateStores⟩, ⟨9, .textOnly .lateStores⟩, ⟨10, .textOnly .lateStores⟩, ⟨11, .textOnly .lateStoresUnsure⟩, ⟨12, .textOnly .lateStores⟩, ⟨13, .textOnly .lateStores⟩], none⟩) (v := .int .i64 (i0 : Int)) rfl (by kernel_rfl) (by kernel_rfl) (by kernel_rfl) (fun _ _ _ h => h) (Or.inl ⟨by rfl, fun w hSw => by go_simp⟩) (by assumption) ?_
        try simp only [Act.put, List.setIfInBounds_toArray, List.set_cons_zero, List.set_cons_succ]
        refine wpAnyH_take (i := 15) (oi := ⟨some 7, .assign (.tmp 48), 4, "sort.go:167", #[⟨13, .data⟩, ⟨14, .chain⟩, ⟨0, .phase⟩, ⟨1, .phase⟩, ⟨2, .phase⟩, ⟨3, .phase⟩, ⟨4, .phase⟩, ⟨5, .phase⟩, ⟨6, .phase⟩, ⟨7, .phase⟩, ⟨8, .phase⟩, ⟨9, .phase⟩, ⟨10, .phase⟩, ⟨11, .phase⟩, ⟨12, .phase⟩, ⟨13, .phase⟩, ⟨14, .phase⟩], none⟩) (v := .bool false) rfl (by kernel_rfl) (by kernel_rfl) (by kernel_rfl) (fun _ _ _ h => h) (Or.inl ⟨by rfl, fun w hSw => by go_simp⟩) (by assumption) ?_
        try simp only [Act.put, List.setIfInBounds_toArray, List.set_cons_zero, List.set_cons_succ]
        have HE : Hid (_ ∧ _) := And.intro hHeld.2 (HR.out.2.2.trans (hHeld.1.mono HR.out.2.2.size))
        refine wpAnyH_done (by kernel_rfl) ?_ _
        try unfold NoPanic
        go_wp2
        exact bodyPost_ret (v := .tuple #[.int .i64 ((i0 : Nat) : Int), .bool false]) (by simp [results, Tryz.results145, go_sem]) rfl ⟨by rw [← HK.out.1, HK.out.2], HE.out.2⟩
end Go.Proofs.YtjbogjbopgcbhaaGreatDoor.Eg
namespace Go.Proofs.YtjbogjbopgcbhaaGreatDoor.Eg
open Pre Ser Rts
open Go.Proofs.YtjbogjbopgcbhaaGreatDoor.Src (row1 row2 Mk SrcAt)
open Go.Proofs.YtjbogjbopgcbhaaGreatDoor.Lk (LkAt)
open Go.ChangeShapes Go.WideShapes Go.ChangeAt Go.RowKit
set_option maxRecDepth 8000
set_option linter.unusedVariables false
set_option linter.unusedSimpArgs false
theorem cmpP_lt {p m q n : Nat} (hm : m < 256) (hn : n < 256) : cmpP p m q n < 0 ↔ p * 256 + m < q * 256 + n := by
  unfold cmpP orV cmpV
  constructor <;> intro h <;> (repeat' split at h) <;> (try (repeat' split)) <;> omega
theorem cmpP_eq {p m q n : Nat} (hm : m < 256) (hn : n < 256) : cmpP p m q n = 0 ↔ p * 256 + m = q * 256 + n := by
  unfold cmpP orV cmpV
  constructor <;> intro h <;> (repeat' split at h) <;> (try (repeat' split)) <;> omega
theorem cmpV_lt {x n : Nat} : cmpV x n < 0 ↔ x < n := by
  unfold cmpV
  constructor <;> intro h <;> (repeat' split at h) <;> (try (repeat' split)) <;> omega
theorem cmpV_eq {x n : Nat} : cmpV x n = 0 ↔ x = n := by
  unfold cmpV
  constructor <;> intro h <;> (repeat' split at h) <;> (try (repeat' split)) <;> omega
theorem gpos_hit {α : Type} {κ : α → Nat} {L : List α} (hr : GUp κ L) {i x : Nat} (hi : i < L.length) (hx : κ L[i] = x) : gpos κ x L = i ∧ gthere κ x L = true := by
  have h1 : i = gpos κ x L := gpos_of hr (Nat.le_of_lt hi) (fun l hl h => by have := hr.get h hi; omega) (fun l hl h => by
    rcases Nat.lt_or_eq_of_le h with h2 | h2
    · have := hr.get h2 hl; omega
    · subst h2; omega)
  exact ⟨h1.symm, (gthere_iff hr x).2 ⟨_, List.getElem_mem hi, hx⟩⟩
theorem gthere_no {α : Type} {κ : α → Nat} {L : List α} (hr : GUp κ L) {x : Nat} (hx : ∀ e ∈ L, κ e ≠ x) : gthere κ x L = false := by
  rw [Bool.eq_false_iff]
  intro h
  obtain ⟨e, he, hk⟩ := (gthere_iff hr x).1 h
  exact hx e he hk
def nbz (e : Eng) (m : Mem) : List (Nat × Nat) := List.zip (e.nb.map (·.1)) m.ls
structure Eng.Ok (e : Eng) : Prop where
  idl : e.id < 16
  nbu : GUp (fun x : Nat × Lk.L => x.1) e.nb
  nbl : e.nb.length ≤ 100
  nbk : ∀ x ∈ e.nb, x.2.Ok ∧ x.1 < 16
  ri : Rising e.L
  lok : ∀ x ∈ e.L, x.Ok
  lle : e.L.length ≤ 200
  chu : GUp Ro.pk e.ch
  cho : ∀ r ∈ e.ch, r.a < 4294967296 ∧ r.n < 256 ∧ r.m < 65536 ∧ r.s < 65536
  chl : e.ch.length ≤ 400
  owo : ∀ h ∈ e.own, h.a < 4294967296 ∧ Pre.right h.a h.n = true ∧ h.n < 256 ∧ h.s < 65536
  owl : e.own.length ≤ 100
  lou : GUp ppk e.lost
  loo : ∀ p ∈ e.lost, p.1 < 4294967296 ∧ p.2 < 256
  lol : e.lost.length ≤ 800
  rql : e.rq.length ≤ 16
  cl : e.c ≤ 230
  cts : e.bad ≤ 1000000 ∧ e.st ≤ 1000000 ∧ e.fu ≤ 1000000 ∧ e.nr ≤ 1000000 ∧ e.he ≤ 1000000
theorem nbz_len {lo : Nat} {w : World} {e : Eng} {m : Mem} (h : EngP lo w e m) : (nbz e m).length = e.nb.length := by
  unfold nbz
  rw [List.length_zip, List.length_map, h.lsl, Nat.min_self]
theorem nbz_at {lo : Nat} {w : World} {e : Eng} {m : Mem} (h : EngP lo w e m) (i : Nat) (hi : i < (nbz e m).length) (hi2 : i < e.nb.length) (hi3 : i < m.ls.length) : (nbz e m)[i] = ((e.nb[i]).1, m.ls[i]) := by
  simp only [nbz, List.getElem_zip, List.getElem_map]
theorem nbz_up {lo : Nat} {w : World} {e : Eng} {m : Mem} (h : EngP lo w e m) (hu : GUp (fun x : Nat × Lk.L => x.1) e.nb) : GUp (fun x : Nat × Nat => x.1) (nbz e m) := by
  unfold GUp
  rw [List.pairwise_iff_getElem]
  intro i j hi hj hij
  have hl := nbz_len h
  rw [nbz_at h i hi (by omega) (by rw [h.lsl]; omega), nbz_at h j hj (by omega) (by rw [h.lsl]; omega)]
  exact hu.get hij (by omega)
theorem find_any (w : World) (lo q : Nat) (e : Eng) (m : Mem) (h : EngAt lo w q e m) (hok : e.Ok) (x : Nat) :
    Calls Tryz.prog 78 #[.pointer (some ⟨q, 0, none⟩), .int .i64 (x : Int)] w fun en w' => en = .returned (.tuple #[.int .i64 ((gpos (fun y : Nat × Nat => y.1) x (nbz e m) : Nat) : Int), .bool (gthere (fun y : Nat × Nat => y.1) x (nbz e m))]) ∧ Below w.heap.size w w' := by
  obtain ⟨A, c, hv, -, hs, -⟩ := gsl_of h.p.nbs (fun _ => rfl)
  change m.vn = .slice A (nbz e m).length c at hv
  change GSl 2 nbC w A (nbz e m) at hs
  have hl := nbz_len h.p
  have hb := bsfNb_any w A (nbz e m).length c (nbz e m) rfl (by rw [hl]; have := hok.nbl; omega) hs (fun y : Nat × Nat => y.1) x (nbz_up h.p hok.nbu) x (fun y => cmpV y.1 x) (fun y _ => ⟨cmpV_lt, cmpV_eq⟩) (fun W y _ => findp_any W y.1 y.2 x)
  have c4 := h.ec.c4
  rw [hv] at c4
  have hql := h.lt
  obtain ⟨P, hP⟩ : ∃ P, P = gpos (fun y : Nat × Nat => y.1) x (nbz e m) := ⟨_, rfl⟩
  obtain ⟨D, hD⟩ : ∃ D, D = gthere (fun y : Nat × Nat => y.1) x (nbz e m) := ⟨_, rfl⟩
  rw [← hP, ← hD] at hb ⊢
  obtain ⟨k, hk⟩ : ∃ k, k = (nbz e m).length := ⟨_, rfl⟩
  rw [← hk] at hb c4
  have HB := Lib.hid hb
  clear hb hs hv hl h hok hP hD hk
  go_enter Tryz.func78, Tryz.ntmps78
  go_wp2_with (go_at_call 115; (with_reducible refine HB.out.mono ?_); rintro en w' ⟨rfl, B⟩)
  exact bodyPost_ret (v := .tuple #[.int .i64 (P : Int), .bool D]) (by simp [results, Tryz.results78, go_sem]) rfl ⟨rfl, B⟩
theorem linkOf_none (w : World) (lo q : Nat) (e : Eng) (m : Mem) (h : EngAt lo w q e m) (hok : e.Ok) (x : Nat) (hx : ∀ y ∈ e.nb, y.1 ≠ x) :
    Calls Tryz.prog 93 #[.pointer (some ⟨q, 0, none⟩), .int .i64 (x : Int)] w fun en w' => en = .returned (.pointer none) ∧ Below w.heap.size w w' := by
  have hf := find_any w lo q e m h hok x
  have hl := nbz_len h.p
  rw [gthere_no (nbz_up h.p hok.nbu) (fun y hy => by
    obtain ⟨i, hi, rfl⟩ := List.getElem_of_mem hy
    rw [nbz_at h.p i hi (by omega) (by rw [h.p.lsl]; omega)]
    exact hx _ (List.getElem_mem _))] at hf
  have HF := Lib.hid hf
  clear hf h hok hl hx
  go_enter Tryz.func93, Tryz.ntmps93
  go_wp2_with (go_at_call 78; (with_reducible refine HF.out.mono ?_); rintro en w' ⟨rfl, B⟩)
  go_ret
  exact ⟨rfl, B⟩
theorem linkOf_some (w : World) (lo q : Nat) (e : Eng) (m : Mem) (h : EngAt lo w q e m) (hok : e.Ok) (i b : Nat) (hi : i < e.nb.length) (hb : m.ls[i]? = some b) :
    Calls Tryz.prog 93 #[.pointer (some ⟨q, 0, none⟩), .int .i64 ((e.nb[i]).1 : Int)] w fun en w' => en = .returned (.pointer (some ⟨b, 0, none⟩)) ∧ Below w.heap.size w w' := by
  have hf := find_any w lo q e m h hok (e.nb[i]).1
  have hl := nbz_len h.p
  have hil : i < (nbz e m).length := by omega
  have hi3 : i < m.ls.length := by rw [h.p.lsl]; exact hi
  have hz := nbz_at h.p i hil hi hi3
  obtain ⟨h1, h2⟩ := gpos_hit (nbz_up h.p hok.nbu) hil (x := (e.nb[i]).1) (by rw [hz])
  rw [h1, h2] at hf
  rw [List.getElem?_eq_getElem hi3] at hb
  injection hb with hb
  rw [hb] at hz
  obtain ⟨A, c, hv, -, hs, -⟩ := gsl_of h.p.nbs (fun _ => rfl)
  change m.vn = .slice A (nbz e m).length c at hv
  change GSl 2 nbC w A (nbz e m) at hs
  have c4 := h.ec.c4
  rw [hv] at c4
  have hql := h.lt
  obtain ⟨bb, oo, e1, hbb, hc0⟩ := hs i hil
  have hc := NbAt.of hc0
  rw [hz] at hc
  generalize (e.nb[i]).1 = x at *
  subst e1
  obtain ⟨k, hk⟩ : ∃ k, k = (nbz e m).length := ⟨_, rfl⟩
  rw [← hk] at c4 hil
  have HF := Lib.hid (And.intro hf (fun w' (B : Below w.heap.size w w') => And.intro ((((Ser.bcell B).1 q 4 hql).trans c4)) ((hc.keep (B.block bb hbb)))))
  clear hf h hok hl hs hv hk hz h1 h2 hc hc0 c4 hi3 hb
  go_enter Tryz.func93, Tryz.ntmps93
  go_wp2_with (go_at_call 78; (with_reducible refine HF.out.1.mono ?_); rintro en w' ⟨rfl, B⟩; obtain ⟨c4, k0, k1⟩ := HF.out.2 w' B; have HB := Lib.hid B; clear B)
  go_ret
  exact ⟨rfl, HB.out⟩
theorem bs_route (w : World) (lo q : Nat) (e : Eng) (m : Mem) (h : EngAt lo w q e m) (hok : e.Ok) (a n : Nat) (hn : n < 256) (A : Option Addr) (c : Nat) (hv : m.vc = .slice A e.ch.length c) (hs : GSl 5 Ro.cl w A e.ch) (W : World) (B : Below w.heap.size w W) :
    Calls Tryz.prog 53 #[.slice A e.ch.length c, .agg #[.int .u32 (a : Int), .int .u8 (n : Int)], .func (.func 54) #[] #[]] W fun en w' => en = .returned (.tuple #[.int .i64 ((gpos Ro.pk (a * 256 + n) e.ch : Nat) : Int), .bool (gthere Ro.pk (a * 256 + n) e.ch)]) ∧ Below W.heap.size W w' :=
  bsfRo_any W A e.ch.length c e.ch rfl (by have := hok.chl; omega) (hs.below B) Ro.pk (a * 256 + n) hok.chu a n (fun r => cmpP r.a r.n a n) (fun r hr => ⟨cmpP_lt (hok.cho r hr).2.1 hn, cmpP_eq (hok.cho r hr).2.1 hn⟩) (fun W r _ => routep_any W r a n)
set_option maxHeartbeats 1000000 in
theorem route_none (w : World) (lo q : Nat) (e : Eng) (m : Mem) (h : EngAt lo w q e m) (hok : e.Ok) (a n : Nat) (hn : n < 256) (hno : ∀ r ∈ e.ch, r.pk ≠ a * 256 + n) :
    Calls Tryz.prog 18 #[.pointer (some ⟨q, 0, none⟩), .agg #[.int .u32 (a : Int), .int .u8 (n : Int)]] w fun en w' => en = .returned (.tuple #[.agg #[.int .u32 0, .int .u8 0, .int .i64 0, .int .u16 0, .int .u16 0], .bool false]) ∧ Below w.heap.size w w' := by
  obtain ⟨A, c, hv, -, hs, -⟩ := gsl_of h.p.ch (fun _ => rfl)
  have B0 := ((Below.refl w.heap.size w).alloc (Nat.le_refl _) (.cells #[.int .u32 (a : Int), .int .u8 (n : Int)] 30)).alloc (by simp) (.cells #[.int .u32 0, .int .u8 0, .int .i64 0, .int .u16 0, .int .u16 0] 40)
  have r0 : ((w.alloc (.cells #[.int .u32 (a : Int), .int .u8 (n : Int)] 30)).alloc (.cells #[.int .u32 0, .int .u8 0, .int .i64 0, .int .u16 0, .int .u16 0] 40)).heap[w.heap.size]? = some (.cells #[.int .u32 (a : Int), .int .u8 (n : Int)] 30 (0, 0)) := (heap_alloc_old _ _ (by simp)).trans (heap_alloc_new w _)
  have r1 := Src.heap_new1 w (.cells #[.int .u32 (a : Int), .int .u8 (n : Int)] 30) (.cells #[.int .u32 0, .int .u8 0, .int .i64 0, .int .u16 0, .int .u16 0] 40)
  have hbs := fun W (B : Below ((w.alloc (.cells #[.int .u32 (a : Int), .int .u8 (n : Int)] 30)).alloc (.cells #[.int .u32 0, .int .u8 0, .int .i64 0, .int .u16 0, .int .u16 0] 40)).heap.size ((w.alloc (.cells #[.int .u32 (a : Int), .int .u8 (n : Int)] 30)).alloc (.cells #[.int .u32 0, .int .u8 0, .int .i64 0, .int .u16 0, .int .u16 0] 40)) W) => bs_route _ lo q e m (h.step B0) hok a n hn A c hv (hs.below B0) W B
  have c5 := (h.step B0).ec.c5
  rw [hv] at c5
  have hql := (h.step B0).lt
  rw [gthere_no hok.chu hno] at hbs
  obtain ⟨P, hP⟩ : ∃ P, P = gpos Ro.pk (a * 256 + n) e.ch := ⟨_, rfl⟩
  obtain ⟨N, hN⟩ : ∃ N, N = e.ch.length := ⟨_, rfl⟩
  rw [← hP, ← hN] at hbs
  rw [← hN] at c5
  clear hok hno hP hN
  clear h
  go_enter Tryz.func18, Tryz.ntmps18
  go_upto_region 3 with (fail)
  generalize (w.alloc _).alloc _ = w0 at *
  have hz1 : w.heap.size + 1 < w0.heap.size := (Array.getElem?_eq_some_iff.1 r1).1
  have HC5 := Lib.hid c5
  have HQ := Lib.hid hql
  have HR0 := Lib.hid r0
  have HR1 := Lib.hid r1
  have HBS := Lib.hid hbs
  have HB0 := Lib.hid B0
  clear c5 r0 r1 hbs B0 hv hs
  refine wp_region_noPanic ?_
  refine wp_region_held_drew (S := fun y : World => Below w0.heap.size w0 y) (by kernel_rfl) ((Below.refl _ _).drew) (fun hHeld => ?_)
  generalize w0.drew = wd at *
  refine wpAnyH_take (i := 0) (oi := ⟨some 12, .move (.tmp 0), 24, "engine.go:280", #[], none⟩) (v := .pointer (some ⟨q, 0, none⟩)) rfl (by kernel_rfl) (by kernel_rfl) (by kernel_rfl) (fun _ _ _ h => h) (Or.inl ⟨by rfl, fun w hSw => by go_simp⟩) (by assumption) ?_
  try simp only [Act.put, List.setIfInBounds_toArray, List.set_cons_zero, List.set_cons_succ]
  refine wpAnyH_take (i := 1) (oi := ⟨some 13, .nilCheck (.tmp 12), 0, "engine.go:280", #[⟨0, .data⟩], none⟩) (v := .pointer (some ⟨q, 0, none⟩)) rfl (by kernel_rfl) (by kernel_rfl) (by kernel_rfl) (fun _ _ _ h => h) (Or.inl ⟨by rfl, fun w hSw => by go_simp⟩) (by assumption) ?_
  try simp only [Act.put, List.setIfInBounds_toArray, List.set_cons_zero, List.set_cons_succ]
  refine wpAnyH_take (i := 2) (oi := ⟨some 14, .fieldAddr 95 (.tmp 13) 5, 0, "engine.go:280", #[⟨1, .data⟩], none⟩) (v := .pointer (some ⟨q, 5, none⟩)) rfl (by kernel_rfl) (by kernel_rfl) (by kernel_rfl) (fun _ _ _ h => h) (Or.inl ⟨by rfl, fun w hSw => by go_simp⟩) (by assumption) ?_
  try simp only [Act.put, List.setIfInBounds_toArray, List.set_cons_zero, List.set_cons_succ]
  refine wpAnyH_take (i := 3) (oi := ⟨some 15, .load 37 (.tmp 14), 37, "engine.go:280", #[⟨2, .data⟩], none⟩) (v := .slice A N c) rfl (by kernel_rfl) (by kernel_rfl) (by kernel_rfl) (fun _ _ _ h => h) (Or.inl ⟨by rfl, fun w hSw => by have c5 := ((Ser.bcell hSw).1 q 5 HQ.out).trans HC5.out; go_simp⟩) (by assumption) ?_
  try simp only [Act.put, List.setIfInBounds_toArray, List.set_cons_zero, List.set_cons_succ]
  refine wpAnyH_take (i := 4) (oi := ⟨some 16, .load 30 (.tmp 3), 30, "engine.go:280", #[], none⟩) (v := .agg #[.int .u32 (a : Int), .int .u8 (n : Int)]) rfl (by kernel_rfl) (by kernel_rfl) (by kernel_rfl) (fun _ _ _ h => h) (Or.inl ⟨by rfl, fun w hSw => by obtain ⟨p0, p1, -⟩ := row2 (brow hSw HR0.out); go_simp⟩) (by assumption) ?_
  try simp only [Act.put, List.setIfInBounds_toArray, List.set_cons_zero, List.set_cons_succ]
  refine wpAnyH_ready (rs := [5]) (by kernel_rfl) (by simp) ?_
  refine AllReadyH.cons (o := ⟨some 17, .call ⟨.value (.func 53), #[.tmp 15, .tmp 16, .func 54], #[37, 30, 112]⟩, 110, "engine.go:280", #[⟨3, .data⟩, ⟨4, .data⟩], none⟩) rfl (fun K hK => ?_) AllReadyH.nil
  go_simp
  with_reducible refine (HBS.out _ hHeld).mono ?_
  rintro en w3 ⟨rfl, B3⟩
  have h3 := hHeld.trans (B3.mono hHeld.size)
  refine hK.out _ _ (h3) (fun hHeld2 => ?_)
  clear hK K hHeld
  have hHeld := hHeld2
  clear hHeld2
  try simp only [Act.put, List.setIfInBounds_toArray, List.set_cons_zero, List.set_cons_succ]
  refine wpAnyH_take (i := 6) (oi := ⟨some 11, .move (.tmp 17), 110, "engine.go:280", #[⟨5, .data⟩], none⟩) (v := .tuple #[.int .i64 (P : Int), .bool false]) rfl (by kernel_rfl) (by kernel_rfl) (by kernel_rfl) (fun _ _ _ h => h) (Or.inl ⟨by rfl, fun w hSw => by go_simp⟩) (by assumption) ?_
  try simp only [Act.put, List.setIfInBounds_toArray, List.set_cons_zero, List.set_cons_succ]
  refine wpAnyH_take (i := 7) (oi := ⟨some 18, .extract (.tmp 11) 0, 3, "engine.go:280", #[⟨6, .data⟩], none⟩) (v := .int .i64 (P : Int)) rfl (by kernel_rfl) (by kernel_rfl) (by kernel_rfl) (fun _ _ _ h => h) (Or.inl ⟨by rfl, fun w hSw => by go_simp⟩) (by assumption) ?_
  try simp only [Act.put, List.setIfInBounds_toArray, List.set_cons_zero, List.set_cons_succ]
  refine wpAnyH_take (i := 8) (oi := ⟨some 19, .extract (.tmp 11) 1, 4, "engine.go:280", #[⟨6, .data⟩, ⟨9, .gcOnly .lateStores⟩], none⟩) (v := .bool false) rfl (by kernel_rfl) (by kernel_rfl) (by kernel_rfl) (fun _ _ _ h => h) (Or.inl ⟨by rfl, fun w hSw => by go_simp⟩) (by assumption) ?_
  try simp only [Act.put, List.setIfInBounds_toArray, List.set_cons_zero, List.set_cons_succ]
  refine wpAnyH_take (i := 9) (oi := ⟨some 6, .assign (.tmp 18), 3, "engine.go:280", #[⟨7, .data⟩, ⟨5, .chain⟩, ⟨0, .phase⟩, ⟨1, .phase⟩, ⟨2, .phase⟩, ⟨3, .phase⟩, ⟨4, .phase⟩, ⟨5, .phase⟩, ⟨6, .phase⟩, ⟨7, .phase⟩, ⟨8, .textOnly .lateStores⟩], none⟩) (v := .int .i64 (P : Int)) rfl (by kernel_rfl) (by kernel_rfl) (by kernel_rfl) (fun _ _ _ h => h) (Or.inl ⟨by rfl, fun w hSw => by go_simp⟩) (by assumption) ?_
  try simp only [Act.put, List.setIfInBounds_toArray, List.set_cons_zero, List.set_cons_succ]
  refine wpAnyH_take (i := 10) (oi := ⟨some 7, .assign (.tmp 19), 4, "engine.go:280", #[⟨8, .data⟩, ⟨9, .chain⟩, ⟨0, .phase⟩, ⟨1, .phase⟩, ⟨2, .phase⟩, ⟨3, .phase⟩, ⟨4, .phase⟩, ⟨5, .phase⟩, ⟨6, .phase⟩, ⟨7, .phase⟩, ⟨8, .phase⟩, ⟨9, .phase⟩], none⟩) (v := .bool false) rfl (by kernel_rfl) (by kernel_rfl) (by kernel_rfl) (fun _ _ _ h => h) (Or.inl ⟨by rfl, fun w hSw => by go_simp⟩) (by assumption) ?_
  try simp only [Act.put, List.setIfInBounds_toArray, List.set_cons_zero, List.set_cons_succ]
  refine wpAnyH_done (by kernel_rfl) ?_ _
  try unfold NoPanic
  have HR2 := Lib.hid (brow hHeld HR1.out)
  have HB2 := Lib.hid (HB0.out.trans (hHeld.mono HB0.out.size))
  have f1 := frozen_of_row _ _ 0 _ 40 HR2.out
  have f2 := frozen_of_row _ _ 1 _ 40 HR2.out
  have f3 := frozen_of_row _ _ 2 _ 40 HR2.out
  have f4 := frozen_of_row _ _ 3 _ 40 HR2.out
  have f5 := frozen_of_row _ _ 4 _ 40 HR2.out
  obtain ⟨s0, s1, s2, s3, s4, -⟩ := row5' HR2.out
  have hsz := (Array.getElem?_eq_some_iff.1 HR2.out).1
  clear hHeld
  go_wp2
  exact bodyPost_ret (Src.results_ct rfl _ _ (w.heap.size + 1) 40 _ (0, 0) _ (.bool false) rfl rfl (set5 HR2.out _ _ _ _ _) Tryz.underlying40 rfl (by kernel_rfl)) rfl ⟨rfl, HB2.out.grown (grown5 _ (w.heap.size + 1) _ _ _ _ _) HB2.out.size (fun k e => by have := Option.some.inj e; omega)⟩
set_option maxHeartbeats 1000000 in
theorem route_some (w : World) (lo q : Nat) (e : Eng) (m : Mem) (h : EngAt lo w q e m) (hok : e.Ok) (a n : Nat) (hn : n < 256) (i : Nat) (hi : i < e.ch.length) (hpk : (e.ch[i]).pk = a * 256 + n) :
    Calls Tryz.prog 18 #[.pointer (some ⟨q, 0, none⟩), .agg #[.int .u32 (a : Int), .int .u8 (n : Int)]] w fun en w' => en = .returned (.tuple #[.agg #[.int .u32 ((e.ch[i]).a : Int), .int .u8 ((e.ch[i]).n : Int), .int .i64 ((e.ch[i]).v : Int), .int .u16 ((e.ch[i]).m : Int), .int .u16 ((e.ch[i]).s : Int)], .bool true]) ∧ Below w.heap.size w w' := by
  obtain ⟨A, c, hv, -, hs, -⟩ := gsl_of h.p.ch (fun _ => rfl)
  have B0 := ((Below.refl w.heap.size w).alloc (Nat.le_refl _) (.cells #[.int .u32 (a : Int), .int .u8 (n : Int)] 30)).alloc (by simp) (.cells #[.int .u32 0, .int .u8 0, .int .i64 0, .int .u16 0, .int .u16 0] 40)
  have r0 : ((w.alloc (.cells #[.int .u32 (a : Int), .int .u8 (n : Int)] 30)).alloc (.cells #[.int .u32 0, .int .u8 0, .int .i64 0, .int .u16 0, .int .u16 0] 40)).heap[w.heap.size]? = some (.cells #[.int .u32 (a : Int), .int .u8 (n : Int)] 30 (0, 0)) := (heap_alloc_old _ _ (by simp)).trans (heap_alloc_new w _)
  have r1 := Src.heap_new1 w (.cells #[.int .u32 (a : Int), .int .u8 (n : Int)] 30) (.cells #[.int .u32 0, .int .u8 0, .int .i64 0, .int .u16 0, .int .u16 0] 40)
  have hbs := fun W (B : Below ((w.alloc (.cells #[.int .u32 (a : Int), .int .u8 (n : Int)] 30)).alloc (.cells #[.int .u32 0, .int .u8 0, .int .i64 0, .int .u16 0, .int .u16 0] 40)).heap.size ((w.alloc (.cells #[.int .u32 (a : Int), .int .u8 (n : Int)] 30)).alloc (.cells #[.int .u32 0, .int .u8 0, .int .i64 0, .int .u16 0, .int .u16 0] 40)) W) => bs_route _ lo q e m (h.step B0) hok a n hn A c hv (hs.below B0) W B
  have c5 := (h.step B0).ec.c5
  rw [hv] at c5
  have hql := (h.step B0).lt
  obtain ⟨hp1, hp2⟩ := gpos_hit hok.chu hi hpk
  rw [hp1, hp2] at hbs
  obtain ⟨b, o, e1, hb, hc0⟩ := hs i hi
  have hra := (RoAt.of hc0).keep (B0.block b hb)
  have hbl := Nat.lt_of_lt_of_le hb B0.size
  generalize e.ch[i] = r at *
  subst e1
  obtain ⟨N, hN⟩ : ∃ N, N = e.ch.length := ⟨_, rfl⟩
  rw [← hN] at hbs c5 hi
  have HRA := Lib.hid (And.intro hbl hra)
  clear hok hN hpk hp1 hp2 hc0 hra hbl hb
  clear h
  go_enter Tryz.func18, Tryz.ntmps18
  go_upto_region 3 with (fail)
  generalize (w.alloc _).alloc _ = w0 at *
  have hz1 : w.heap.size + 1 < w0.heap.size := (Array.getElem?_eq_some_iff.1 r1).1
  have HC5 := Lib.hid c5
  have HQ := Lib.hid hql
  have HR0 := Lib.hid r0
  have HR1 := Lib.hid r1
  have HBS := Lib.hid hbs
  have HB0 := Lib.hid B0
  clear c5 r0 r1 hbs B0 hv hs
  refine wp_region_noPanic ?_
  refine wp_region_held_drew (S := fun y : World => Below w0.heap.size w0 y) (by kernel_rfl) ((Below.refl _ _).drew) (fun hHeld => ?_)
  generalize w0.drew = wd at *
  refine wpAnyH_take (i := 0) (oi := ⟨some 12, .move (.tmp 0), 24, "engine.go:280", #[], none⟩) (v := .pointer (some ⟨q, 0, none⟩)) rfl (by kernel_rfl) (by kernel_rfl) (by kernel_rfl) (fun _ _ _ h => h) (Or.inl ⟨by rfl, fun w hSw => by go_simp⟩) (by assumption) ?_
  try simp only [Act.put, List.setIfInBounds_toArray, List.set_cons_zero, List.set_cons_succ]
  refine wpAnyH_take (i := 1) (oi := ⟨some 13, .nilCheck (.tmp 12), 0, "engine.go:280", #[⟨0, .data⟩], none⟩) (v := .pointer (some ⟨q, 0, none⟩)) rfl (by kernel_rfl) (by kernel_rfl) (by kernel_rfl) (fun _ _ _ h => h) (Or.inl ⟨by rfl, fun w hSw => by go_simp⟩) (by assumption) ?_
  try simp only [Act.put, List.setIfInBounds_toArray, List.set_cons_zero, List.set_cons_succ]
  refine wpAnyH_take (i := 2) (oi := ⟨some 14, .fieldAddr 95 (.tmp 13) 5, 0, "engine.go:280", #[⟨1, .data⟩], none⟩) (v := .pointer (some ⟨q, 5, none⟩)) rfl (by kernel_rfl) (by kernel_rfl) (by kernel_rfl) (fun _ _ _ h => h) (Or.inl ⟨by rfl, fun w hSw => by go_simp⟩) (by assumption) ?_
  try simp only [Act.put, List.setIfInBounds_toArray, List.set_cons_zero, List.set_cons_succ]
  refine wpAnyH_take (i := 3) (oi := ⟨some 15, .load 37 (.tmp 14), 37, "engine.go:280", #[⟨2, .data⟩], none⟩) (v := .slice (some ⟨b, o, none⟩) N c) rfl (by kernel_rfl) (by kernel_rfl) (by kernel_rfl) (fun _ _ _ h => h) (Or.inl ⟨by rfl, fun w hSw => by have c5 := ((Ser.bcell hSw).1 q 5 HQ.out).trans HC5.out; go_simp⟩) (by assumption) ?_
  try simp only [Act.put, List.setIfInBounds_toArray, List.set_cons_zero, List.set_cons_succ]
  refine wpAnyH_take (i := 4) (oi := ⟨some 16, .load 30 (.tmp 3), 30, "engine.go:280", #[], none⟩) (v := .agg #[.int .u32 (a : Int), .int .u8 (n : Int)]) rfl (by kernel_rfl) (by kernel_rfl) (by kernel_rfl) (fun _ _ _ h => h) (Or.inl ⟨by rfl, fun w hSw => by obtain ⟨p0, p1, -⟩ := row2 (brow hSw HR0.out); go_simp⟩) (by assumption) ?_
  try simp only [Act.put, List.setIfInBounds_toArray, List.set_cons_zero, List.set_cons_succ]
  refine wpAnyH_ready (rs := [5]) (by kernel_rfl) (by simp) ?_
  refine AllReadyH.cons (o := ⟨some 17, .call ⟨.value (.func 53), #[.tmp 15, .tmp 16, .func 54], #[37, 30, 112]⟩, 110, "engine.go:280", #[⟨3, .data⟩, ⟨4, .data⟩], none⟩) rfl (fun K hK => ?_) AllReadyH.nil
  go_simp
  with_reducible refine (HBS.out _ hHeld).mono ?_
  rintro en w3 ⟨rfl, B3⟩
  have h3 := hHeld.trans (B3.mono hHeld.size)
  refine hK.out _ _ (h3) (fun hHeld2 => ?_)
  clear hK K hHeld
  have hHeld := hHeld2
  clear hHeld2
  try simp only [Act.put, List.setIfInBounds_toArray, List.set_cons_zero, List.set_cons_succ]
  refine wpAnyH_take (i := 6) (oi := ⟨some 11, .move (.tmp 17), 110, "engine.go:280", #[⟨5, .data⟩], none⟩) (v := .tuple #[.int .i64 (i : Int), .bool true]) rfl (by kernel_rfl) (by kernel_rfl) (by kernel_rfl) (fun _ _ _ h => h) (Or.inl ⟨by rfl, fun w hSw => by go_simp⟩) (by assumption) ?_
  try simp only [Act.put, List.setIfInBounds_toArray, List.set_cons_zero, List.set_cons_succ]
  refine wpAnyH_take (i := 7) (oi := ⟨some 18, .extract (.tmp 11) 0, 3, "engine.go:280", #[⟨6, .data⟩], none⟩) (v := .int .i64 (i : Int)) rfl (by kernel_rfl) (by kernel_rfl) (by kernel_rfl) (fun _ _ _ h => h) (Or.inl ⟨by rfl, fun w hSw => by go_simp⟩) (by assumption) ?_
  try simp only [Act.put, List.setIfInBounds_toArray, List.set_cons_zero, List.set_cons_succ]
  refine wpAnyH_take (i := 8) (oi := ⟨some 19, .extract (.tmp 11) 1, 4, "engine.go:280", #[⟨6, .data⟩, ⟨9, .gcOnly .lateStores⟩], none⟩) (v := .bool true) rfl (by kernel_rfl) (by kernel_rfl) (by kernel_rfl) (fun _ _ _ h => h) (Or.inl ⟨by rfl, fun w hSw => by go_simp⟩) (by assumption) ?_
  try simp only [Act.put, List.setIfInBounds_toArray, List.set_cons_zero, List.set_cons_succ]
  refine wpAnyH_take (i := 9) (oi := ⟨some 6, .assign (.tmp 18), 3, "engine.go:280", #[⟨7, .data⟩, ⟨5, .chain⟩, ⟨0, .phase⟩, ⟨1, .phase⟩, ⟨2, .phase⟩, ⟨3, .phase⟩, ⟨4, .phase⟩, ⟨5, .phase⟩, ⟨6, .phase⟩, ⟨7, .phase⟩, ⟨8, .textOnly .lateStores⟩], none⟩) (v := .int .i64 (i : Int)) rfl (by kernel_rfl) (by kernel_rfl) (by kernel_rfl) (fun _ _ _ h => h) (Or.inl ⟨by rfl, fun w hSw => by go_simp⟩) (by assumption) ?_
  try simp only [Act.put, List.setIfInBounds_toArray, List.set_cons_zero, List.set_cons_succ]
  refine wpAnyH_take (i := 10) (oi := ⟨some 7, .assign (.tmp 19), 4, "engine.go:280", #[⟨8, .data⟩, ⟨9, .chain⟩, ⟨0, .phase⟩, ⟨1, .phase⟩, ⟨2, .phase⟩, ⟨3, .phase⟩, ⟨4, .phase⟩, ⟨5, .phase⟩, ⟨6, .phase⟩, ⟨7, .phase⟩, ⟨8, .phase⟩, ⟨9, .phase⟩], none⟩) (v := .bool true) rfl (by kernel_rfl) (by kernel_rfl) (by kernel_rfl) (fun _ _ _ h => h) (Or.inl ⟨by rfl, fun w hSw => by go_simp⟩) (by assumption) ?_
  try simp only [Act.put, List.setIfInBounds_toArray, List.set_cons_zero, List.set_cons_succ]
  refine wpAnyH_done (by kernel_rfl) ?_ _
  try unfold NoPanic
  have HR2 := Lib.hid (brow hHeld HR1.out)
  have HB2 := Lib.hid (HB0.out.trans (hHeld.mono HB0.out.size))
  have f1 := frozen_of_row _ _ 0 _ 40 HR2.out
  have f2 := frozen_of_row _ _ 1 _ 40 HR2.out
  have f3 := frozen_of_row _ _ 2 _ 40 HR2.out
  have f4 := frozen_of_row _ _ 3 _ 40 HR2.out
  have f5 := frozen_of_row _ _ 4 _ 40 HR2.out
  obtain ⟨s0, s1, s2, s3, s4, -⟩ := row5' HR2.out
  have hsz := (Array.getElem?_eq_some_iff.1 HR2.out).1
  have c5 := ((Ser.bcell hHeld).1 q 5 HQ.out).trans HC5.out
  have hql := Nat.lt_of_lt_of_le HQ.out hHeld.size
  obtain ⟨k0, k1, k2, k3, k4⟩ := HRA.out.2.keep (hHeld.block b HRA.out.1)
  clear hHeld
  go_wp2
  exact bodyPost_ret (Src.results_ct rfl _ _ (w.heap.size + 1) 40 _ (0, 0) _ (.bool true) rfl rfl (set5 HR2.out _ _ _ _ _) Tryz.underlying40 rfl (by kernel_rfl)) rfl ⟨rfl, HB2.out.grown (grown5 _ (w.heap.size + 1) _ _ _ _ _) HB2.out.size (fun k e => by have := Option.some.inj e; omega)⟩
theorem has_no (w : World) (lo q : Nat) (e : Eng) (m : Mem) (h : EngAt lo w q e m) (hok : e.Ok) (a n : Nat) (hn : n < 256) (hno : ∀ r ∈ e.ch, r.pk ≠ a * 256 + n) :
    Calls Tryz.prog 100 #[.pointer (some ⟨q, 0, none⟩), .agg #[.int .u32 (a : Int), .int .u8 (n : Int)]] w fun en w' => en = .returned (.bool false) ∧ Below w.heap.size w w' := by
  have B0 := (Below.refl w.heap.size w).alloc (Nat.le_refl _) (.cells #[.int .u32 (a : Int), .int .u8 (n : Int)] 30)
  have r0 := heap_alloc_new w (.cells #[.int .u32 (a : Int), .int .u8 (n : Int)] 30)
  have HC := Lib.hid (route_none _ lo q e m (h.step B0) hok a n hn hno)
  have HB0 := Lib.hid B0
  obtain ⟨p0, p1, -⟩ := row2 r0
  clear h hok hno r0
  go_enter Tryz.func100, Tryz.ntmps100
  go_wp2_with (go_at_call 18; (with_reducible refine HC.out.mono ?_); rintro en w' ⟨rfl, B⟩; have HB := Lib.hid (HB0.out.trans (B.mono HB0.out.size)); clear B p0 p1)
  go_ret
  exact ⟨rfl, HB.out.alloc HB.out.size _⟩
theorem has_yes (w : World) (lo q : Nat) (e : Eng) (m : Mem) (h : EngAt lo w q e m) (hok : e.Ok) (a n : Nat) (hn : n < 256) (i : Nat) (hi : i < e.ch.length) (hpk : (e.ch[i]).pk = a * 256 + n) :
    Calls Tryz.prog 100 #[.pointer (some ⟨q, 0, none⟩), .agg #[.int .u32 (a : Int), .int .u8 (n : Int)]] w fun en w' => en = .returned (.bool true) ∧ Below w.heap.size w w' := by
  have B0 := (Below.refl w.heap.size w).alloc (Nat.le_refl _) (.cells #[.int .u32 (a : Int), .int .u8 (n : Int)] 30)
  have r0 := heap_alloc_new w (.cells #[.int .u32 (a : Int), .int .u8 (n : Int)] 30)
  have hc := route_some _ lo q e m (h.step B0) hok a n hn i hi hpk
  generalize e.ch[i] = r at *
  have HC := Lib.hid hc
  have HB0 := Lib.hid B0
  obtain ⟨p0, p1, -⟩ := row2 r0
  clear h hok r0 hc hpk hi
  go_enter Tryz.func100, Tryz.ntmps100
  go_wp2_with (go_at_call 18; (with_reducible refine HC.out.mono ?_); rintro en w' ⟨rfl, B⟩; have HB := Lib.hid (HB0.out.trans (B.mono HB0.out.size)); clear B p0 p1)
  go_ret
  exact ⟨rfl, HB.out.alloc HB.out.size _⟩
def Eng.hasP (e : Eng) (a n : Nat) : Bool := e.ch.any fun r => r.pk == a * 256 + n
theorem has_any (w : World) (lo q : Nat) (e : Eng) (m : Mem) (h : EngAt lo w q e m) (hok : e.Ok) (a n : Nat) (hn : n < 256) :
    Calls Tryz.prog 100 #[.pointer (some ⟨q, 0, none⟩), .agg #[.int .u32 (a : Int), .int .u8 (n : Int)]] w fun en w' => en = .returned (.bool (e.hasP a n)) ∧ Below w.heap.size w w' := by
  unfold Eng.hasP
  by_cases hx : ∀ r ∈ e.ch, r.pk ≠ a * 256 + n
  · rw [List.any_eq_false.2 (fun r hr => by simpa using hx r hr)]
    exact has_no w lo q e m h hok a n hn hx
  · obtain ⟨r, hr, hp⟩ : ∃ r ∈ e.ch, r.pk = a * 256 + n := by
      by_cases hy : ∃ r ∈ e.ch, r.pk = a * 256 + n
      · exact hy
      · exact absurd (fun r hr he => hy ⟨r, hr, he⟩) hx
    rw [List.any_eq_true.2 ⟨r, hr, by simpa using hp⟩]
    obtain ⟨i, hi, rfl⟩ := List.getElem_of_mem hr
    exact has_yes w lo q e m h hok a n hn i hi hp
end Go.Proofs.YtjbogjbopgcbhaaGreatDoor.Eg
