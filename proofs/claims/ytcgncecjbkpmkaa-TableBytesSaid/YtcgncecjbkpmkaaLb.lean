/- Contract: a table's Encode. -/
import Derived.Test.YtcgncecjbkpmkaaLa
import Derived.Deep.RegionHeld3
namespace Go.Proofs.Ytcgncecjbkpmkaa.Tab
open Pre Ser Chg Coin
open Go.ChangeShapes Go.WideShapes Go.ChangeAt Go.RowKit
set_option maxRecDepth 8000

def T.enc (t : T) : List UInt8 := coins [t.no, t.time, t.rows.length] ++ t.rows.flatMap rowB
theorem rows_len (rs : List R) : (rs.flatMap rowB).length ≤ 63 * rs.length := by
  induction rs with
  | nil => exact Nat.le_refl _
  | cons r rs ih => simp only [List.flatMap_cons, List.length_append, List.length_cons]; have := rowB_len r; omega
theorem encode_any (w : World) (B q : Nat) (t : T) (v : Value) (h : TabAt w B q t v) (ht : ∀ r ∈ t.rows, r.Fits) (hno : t.no < 18446744073709551616) (htm : t.time < 18446744073709551616) (hlen : t.rows.length ≤ 1000) :
    Calls Try.prog 19 #[.pointer (some ⟨q, 0, none⟩)] w (CoinOwn w t.enc) := by
  obtain ⟨A, cp, hv, hsl, -⟩ := h.own.form
  obtain ⟨n, hn⟩ : ∃ n, n = t.rows.length := ⟨_, rfl⟩
  have henc : t.enc = coins [t.no, t.time, n] ++ t.rows.flatMap rowB := by rw [hn]; rfl
  have hcp : ∀ W b, W.heap[b]? = some (.cells #[.int .u64 (t.no : Int), .int .u64 (t.time : Int), .int .u64 (n : Int)] 28 (0, 0)) → Calls Try.prog 29 #[.slice (some ⟨b, 0, none⟩) 3 3] W (CoinOwn W (coins [t.no, t.time, n])) := fun W b hb => put_all W b 3 [t.no, t.time, n] hb (by intro k hk; simp at hk; omega) rfl (by decide)
  rw [← hn] at hv hlen
  have HX := Lib.hid (And.intro henc (And.intro hcp (And.intro hn (And.intro ht hsl))))
  have HT := Lib.hid h
  have hqw := h.lt
  subst hv
  obtain ⟨y, hy⟩ : ∃ y, y = t.enc := ⟨_, rfl⟩
  rw [← hy]
  have HY := Lib.hid hy
  have hcl := coins_len [t.no, t.time, n]
  simp only [List.length_cons, List.length_nil] at hcl
  have hwn : IntKind.u64.wrap (n : Int) = n := by rw [wrap_u64]; omega
  clear h hn henc hcp ht hno htm hsl hy
  go_enter Try.func19, Try.ntmps19
  go_upto_region 3 with (fail)
  refine wp_region_noPanic ?_
  refine wp_region_held_drew (S := fun W : World => Below w.heap.size w W) (by kernel_rfl) ((Below.refl _ _).drew) (fun hHeld => ?_)
  generalize w.drew = wd at *
  refine wpAnyH_take (i := 0) (oi := { dst := some 8, op := Op.move (Operand.tmp 0), type := 26, pos := "bytes.go:22", after := #[], guard := none }) (v := .pointer (some ⟨q, 0, none⟩)) rfl (by kernel_rfl) (by kernel_rfl) (by kernel_rfl) (fun _ _ _ h => h) (Or.inl ⟨by rfl, fun w hSw => by go_simp⟩) (by assumption) ?_
  try simp only [Act.put, List.setIfInBounds_toArray, List.set_cons_zero, List.set_cons_succ]
  refine wpAnyH_take (i := 1) (oi := { dst := some 9, op := Op.nilCheck (Operand.tmp 8), type := 0, pos := "bytes.go:22", after := #[{ on := 0, ground := Ground.data }], guard := none }) (v := .pointer (some ⟨q, 0, none⟩)) rfl (by kernel_rfl) (by kernel_rfl) (by kernel_rfl) (fun _ _ _ h => h) (Or.inl ⟨by rfl, fun w hSw => by go_simp⟩) (by assumption) ?_
  try simp only [Act.put, List.setIfInBounds_toArray, List.set_cons_zero, List.set_cons_succ]
  refine wpAnyH_take (i := 2) (oi := { dst := some 10, op := Op.fieldAddr 70 (Operand.tmp 9) 1, type := 0, pos := "bytes.go:22", after := #[{ on := 1, ground := Ground.data }], guard := none }) (v := .pointer (some ⟨q, 1, none⟩)) rfl (by kernel_rfl) (by kernel_rfl) (by kernel_rfl) (fun _ _ _ h => h) (Or.inl ⟨by rfl, fun w hSw => by go_simp⟩) (by assumption) ?_
  try simp only [Act.put, List.setIfInBounds_toArray, List.set_cons_zero, List.set_cons_succ]
  refine wpAnyH_take (i := 3) (oi := { dst := some 11, op := Op.load 28 (Operand.tmp 10), type := 28, pos := "bytes.go:22", after := #[{ on := 2, ground := Ground.data }], guard := none }) (v := .int .u64 (t.no : Int)) rfl (by kernel_rfl) (by kernel_rfl) (by kernel_rfl) (fun _ _ _ h => h) (Or.inl ⟨by rfl, fun w hSw => by obtain ⟨k0, k1, k2⟩ := row3 (HT.out.kept hSw).row; go_simp⟩) (by assumption) ?_
  try simp only [Act.put, List.setIfInBounds_toArray, List.set_cons_zero, List.set_cons_succ]
  refine wpAnyH_take (i := 4) (oi := { dst := some 12, op := Op.move (Operand.tmp 0), type := 26, pos := "bytes.go:22", after := #[], guard := none }) (v := .pointer (some ⟨q, 0, none⟩)) rfl (by kernel_rfl) (by kernel_rfl) (by kernel_rfl) (fun _ _ _ h => h) (Or.inl ⟨by rfl, fun w hSw => by go_simp⟩) (by assumption) ?_
  try simp only [Act.put, List.setIfInBounds_toArray, List.set_cons_zero, List.set_cons_succ]
  refine wpAnyH_take (i := 5) (oi := { dst := some 13, op := Op.nilCheck (Operand.tmp 12), type := 0, pos := "bytes.go:22", after := #[{ on := 4, ground := Ground.data }], guard := none }) (v := .pointer (some ⟨q, 0, none⟩)) rfl (by kernel_rfl) (by kernel_rfl) (by kernel_rfl) (fun _ _ _ h => h) (Or.inl ⟨by rfl, fun w hSw => by go_simp⟩) (by assumption) ?_
  try simp only [Act.put, List.setIfInBounds_toArray, List.set_cons_zero, List.set_cons_succ]
  refine wpAnyH_take (i := 6) (oi := { dst := some 14, op := Op.fieldAddr 70 (Operand.tmp 13) 2, type := 0, pos := "bytes.go:22", after := #[{ on := 5, ground := Ground.data }], guard := none }) (v := .pointer (some ⟨q, 2, none⟩)) rfl (by kernel_rfl) (by kernel_rfl) (by kernel_rfl) (fun _ _ _ h => h) (Or.inl ⟨by rfl, fun w hSw => by go_simp⟩) (by assumption) ?_
  try simp only [Act.put, List.setIfInBounds_toArray, List.set_cons_zero, List.set_cons_succ]
  refine wpAnyH_take (i := 7) (oi := { dst := some 15, op := Op.load 28 (Operand.tmp 14), type := 28, pos := "bytes.go:22", after := #[{ on := 6, ground := Ground.data }], guard := none }) (v := .int .u64 (t.time : Int)) rfl (by kernel_rfl) (by kernel_rfl) (by kernel_rfl) (fun _ _ _ h => h) (Or.inl ⟨by rfl, fun w hSw => by obtain ⟨k0, k1, k2⟩ := row3 (HT.out.kept hSw).row; go_simp⟩) (by assumption) ?_
  try simp only [Act.put, List.setIfInBounds_toArray, List.set_cons_zero, List.set_cons_succ]
  refine wpAnyH_take (i := 8) (oi := { dst := some 16, op := Op.move (Operand.tmp 0), type := 26, pos := "bytes.go:22", after := #[], guard := none }) (v := .pointer (some ⟨q, 0, none⟩)) rfl (by kernel_rfl) (by kernel_rfl) (by kernel_rfl) (fun _ _ _ h => h) (Or.inl ⟨by rfl, fun w hSw => by go_simp⟩) (by assumption) ?_
  try simp only [Act.put, List.setIfInBounds_toArray, List.set_cons_zero, List.set_cons_succ]
  refine wpAnyH_take (i := 9) (oi := { dst := some 17, op := Op.nilCheck (Operand.tmp 16), type := 0, pos := "bytes.go:22", after := #[{ on := 8, ground := Ground.data }], guard := none }) (v := .pointer (some ⟨q, 0, none⟩)) rfl (by kernel_rfl) (by kernel_rfl) (by kernel_rfl) (fun _ _ _ h => h) (Or.inl ⟨by rfl, fun w hSw => by go_simp⟩) (by assumption) ?_
  try simp only [Act.put, List.setIfInBounds_toArray, List.set_cons_zero, List.set_cons_succ]
  refine wpAnyH_take (i := 10) (oi := { dst := some 18, op := Op.fieldAddr 70 (Operand.tmp 17) 0, type := 0, pos := "bytes.go:22", after := #[{ on := 9, ground := Ground.data }], guard := none }) (v := .pointer (some ⟨q, 0, none⟩)) rfl (by kernel_rfl) (by kernel_rfl) (by kernel_rfl) (fun _ _ _ h => h) (Or.inl ⟨by rfl, fun w hSw => by go_simp⟩) (by assumption) ?_
  try simp only [Act.put, List.setIfInBounds_toArray, List.set_cons_zero, List.set_cons_succ]
  refine wpAnyH_take (i := 11) (oi := { dst := some 19, op := Op.load 48 (Operand.tmp 18), type := 48, pos := "bytes.go:22", after := #[{ on := 10, ground := Ground.data }], guard := none }) (v := .slice A n cp) rfl (by kernel_rfl) (by kernel_rfl) (by kernel_rfl) (fun _ _ _ h => h) (Or.inl ⟨by rfl, fun w hSw => by obtain ⟨k0, k1, k2⟩ := row3 (HT.out.kept hSw).row; go_simp⟩) (by assumption) ?_
  try simp only [Act.put, List.setIfInBounds_toArray, List.set_cons_zero, List.set_cons_succ]
  refine wpAnyH_take (i := 12) (oi := { dst := some 20, op := Op.call { callee := Callee.builtin Builtin.len, args := #[Operand.tmp 19], argTypes := #[48] }, type := 3, pos := "bytes.go:22", after := #[{ on := 11, ground := Ground.data }], guard := none }) (v := .int .i64 (n : Int)) rfl (by kernel_rfl) (by kernel_rfl) (by kernel_rfl) (fun _ _ _ h => h) (Or.inl ⟨by rfl, fun w hSw => by go_simp⟩) (by assumption) ?_
  try simp only [Act.put, List.setIfInBounds_toArray, List.set_cons_zero, List.set_cons_succ]
  refine wpAnyH_take (i := 13) (oi := { dst := some 21, op := Op.convert 3 28 (Operand.tmp 20), type := 28, pos := "bytes.go:22", after := #[{ on := 12, ground := Ground.data }], guard := none }) (v := .int .u64 (n : Int)) rfl (by kernel_rfl) (by kernel_rfl) (by kernel_rfl) (fun _ _ _ h => h) (Or.inl ⟨by rfl, fun w hSw => by go_simp⟩) (by assumption) ?_
  try simp only [Act.put, List.setIfInBounds_toArray, List.set_cons_zero, List.set_cons_succ]
  refine wpAnyH_ready (rs := [14]) (by kernel_rfl) (by simp) ?_
  refine AllReadyH.cons (o := { dst := some 22, op := Op.buildSlice 80 3 #[(0, Operand.tmp 11), (1, Operand.tmp 15), (2, Operand.tmp 21)], type := 80, pos := "bytes.go:22", after := #[{ on := 3, ground := Ground.data }, { on := 7, ground := Ground.data }, { on := 13, ground := Ground.data }], guard := none }) rfl (fun K hK => ?_) AllReadyH.nil
  go_simp
  have HB := heap_alloc_new wd (.cells #[.int .u64 (t.no : Int), .int .u64 (t.time : Int), .int .u64 (n : Int)] 28)
  have B1 := hHeld.alloc hHeld.size (.cells #[.int .u64 (t.no : Int), .int .u64 (t.time : Int), .int .u64 (n : Int)] 28)
  refine hK.out _ _ (B1) (fun hHeld => ?_)
  clear hK K
  try simp only [Act.put, List.setIfInBounds_toArray, List.set_cons_zero, List.set_cons_succ]
  have HB := Lib.hid (And.intro HB B1)
  clear B1
  refine wpAnyH_ready (rs := [15]) (by kernel_rfl) (by simp) ?_
  refine AllReadyH.cons (o := { dst := some 23, op := Op.call { callee := Callee.value (Operand.func 29), args := #[Operand.tmp 22], argTypes := #[80] }, type := 56, pos := "bytes.go:22", after := #[{ on := 14, ground := Ground.data }], guard := none }) rfl (fun K hK => ?_) AllReadyH.nil
  go_simp
  with_reducible refine (HX.out.2.1 _ wd.heap.size HB.out.1).mono ?_
  rintro e w3 ⟨v3, rfl, O3, B3⟩
  have h3 := HB.out.2.trans (B3.mono HB.out.2.size)
  refine hK.out _ _ (h3) (fun hHeld => ?_)
  clear hK K
  try simp only [Act.put, List.setIfInBounds_toArray, List.set_cons_zero, List.set_cons_succ]
  have HE := Lib.hid (And.intro (own_mono (B' := w.heap.size) O3 HB.out.2.size) h3)
  clear O3 B3 h3
  refine wpAnyH_take (i := 16) (oi := { dst := some 3, op := Op.assign (Operand.tmp 23), type := 56, pos := "bytes.go:22", after := #[{ on := 15, ground := Ground.data }, { on := 15, ground := Ground.chain }, { on := 0, ground := Ground.phase }, { on := 1, ground := Ground.phase }, { on := 2, ground := Ground.phase }, { on := 3, ground := Ground.phase }, { on := 4, ground := Ground.phase }, { on := 5, ground := Ground.phase }, { on := 6, ground := Ground.phase }, { on := 7, ground := Ground.phase }, { on := 8, ground := Ground.phase }, { on := 9, ground := Ground.phase }, { on := 10, ground := Ground.phase }, { on := 11, ground := Ground.phase }, { on := 12, ground := Ground.phase }, { on := 13, ground := Ground.phase }, { on := 14, ground := Ground.phase }, { on := 15, ground := Ground.phase }], guard := none }) (v := v3) rfl (by kernel_rfl) (by kernel_rfl) (by kernel_rfl) (fun _ _ _ h => h) (Or.inl ⟨by rfl, fun w hSw => by go_simp⟩) (by assumption) ?_
  try simp only [Act.put, List.setIfInBounds_toArray, List.set_cons_zero, List.set_cons_succ]
  refine wpAnyH_done (by kernel_rfl) ?_ _
  try unfold NoPanic
  obtain ⟨k0, k1, k2⟩ := row3 (HT.out.kept HE.out.2).row
  go_wp2
  go_loopw [3, 29] (fun p i wr => ∃ j : Nat, j ≤ n ∧ i = .int .i64 j ∧ Hid (Own wr w.heap.size p (coins [t.no, t.time, n] ++ (t.rows.take j).flatMap rowB) ∧ Below w.heap.size w wr)) (fun _ i _ => n - (intOf i).toNat)
  case atStart => exact ⟨0, by omega, rfl, ⟨by simpa using HE.out.1, HE.out.2⟩⟩
  case round =>
    obtain ⟨j, hj, rfl, HR⟩ := hrel
    by_cases hlt : j < n
    · have hjl : j < t.rows.length := by rw [← HX.out.2.2.1]; exact hlt
      obtain ⟨bb, oo, ea, hb, hca⟩ := (HX.out.2.2.2.2.below HR.out.2) j hjl
      subst ea
      have hfit := HX.out.2.2.2.1 _ (List.getElem_mem hjl)
      have hnx : (t.rows.take (j + 1)).flatMap rowB = (t.rows.take j).flatMap rowB ++ rowB t.rows[j] := by
        rw [List.take_succ_eq_append_getElem hjl, List.flatMap_append]
        simp
      have hrl := rows_len (t.rows.take j)
      rw [show (t.rows.take j).length = j by rw [List.length_take]; omega] at hrl
      obtain ⟨k0, k1, k2, k3, k4, k5, k6, k7, k8, k9⟩ := hca
      generalize t.rows[j] = r at *
      have hpr := fun W => put_row W r hfit
      have hr63 := rowB_len r
      have HP := Lib.hid (And.intro hnx (And.intro hpr (And.intro hrl hr63)))
      clear hnx hpr hrl hfit hr63
      obtain ⟨A3, c3, hv3, -, -, -⟩ := HR.out.1.form
      obtain ⟨n3, hn3⟩ : ∃ n3, n3 = (coins [t.no, t.time, n] ++ (t.rows.take j).flatMap rowB).length := ⟨_, rfl⟩
      rw [← hn3] at hv3
      clear hn3
      subst hv3
      go_wp2_with (first
        | (go_at_call 30; (with_reducible refine (HP.out.2.1 _).mono ?_); rintro e w4 ⟨v4, rfl, O4, B4⟩; obtain ⟨A4, c4, hv4, hrd4, -, hn4⟩ := O4.form; obtain ⟨m4, hm4⟩ : ∃ m4, m4 = (rowB r).length := ⟨_, rfl⟩; rw [← hm4] at hv4; subst hv4; have HZ4 := Lib.hid (And.intro (And.intro hrd4 (And.intro hm4 hn4)) (And.intro ((HR.out.1.kept ((Below.refl _ _).alloc (Nat.le_refl _) _)).kept B4) ((HR.out.2.alloc HR.out.2.size _).trans (B4.mono (by have := HR.out.2.size; simp; omega))))); clear O4 B4 hrd4 hm4 hn4)
        | (at_builtin; refine app_any rfl (.tmp 33) (.tmp 35) rfl w.heap.size _ (coins [t.no, t.time, n] ++ (t.rows.take j).flatMap rowB) (rowB r) A4 m4 c4 w4.heap.size rfl rfl HZ4.out.2.1 HZ4.out.1.1 HZ4.out.1.2.1 HZ4.out.1.2.2 (by have := HP.out.2.2.1; have := HP.out.2.2.2; rw [List.length_append]; omega) HZ4.out.2.2.size w.heap.size w HZ4.out.2.2 (Nat.le_refl _) ?_; intro v5 w5 O5 B5 _; have HZ5 := Lib.hid (And.intro O5 B5); clear O5 B5))
      go_roundw
      case rel => exact ⟨j + 1, by omega, by go_num, ⟨by rw [HP.out.1, ← List.append_assoc]; exact HZ5.out.1, HZ5.out.2⟩⟩
      case measure => simp [intOf]; omega
    · obtain rfl : j = n := by omega
      go_wp2
      go_ret
      have := HR.out.1
      rw [List.take_of_length_le (by have := HX.out.2.2.1; omega)] at this
      exact ⟨_, rfl, by rw [HY.out, HX.out.1]; exact this, HR.out.2⟩
end Go.Proofs.Ytcgncecjbkpmkaa.Tab
