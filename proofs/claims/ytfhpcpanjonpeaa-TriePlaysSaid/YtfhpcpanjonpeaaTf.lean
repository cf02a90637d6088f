/- A prefix's place in a list. -/
import Derived.Test.YtfhpcpanjonpeaaTn
import Derived.Deep.DeepCutAuto
import Derived.Deep.RegionHeld3
namespace Go.Proofs.Ytfhpcpanjonpeaa.Tri
open Pre
open Go.ChangeShapes Go.WideShapes Go.ChangeAt Go.RowKit

/-- The first one of a prefix. -/
def findI : List R → Nat → Nat → Int
  | [], _, _ => -1
  | r :: rs, b, m => if r.a = b ∧ r.n = m then 0 else (if findI rs b m < 0 then -1 else findI rs b m + 1)
theorem findI_ge (rs : List R) (b m : Nat) : -1 ≤ findI rs b m := by
  induction rs with
  | nil => exact Int.le_refl _
  | cons r rs ih => unfold findI; split <;> (try split) <;> omega
theorem findI_at (rs : List R) (b m k : Nat) (hk : k < rs.length) (h : rs[k].a = b ∧ rs[k].n = m) (hn : ∀ j (hj : j < k), ¬(rs[j].a = b ∧ rs[j].n = m)) : findI rs b m = k := by
  induction rs generalizing k with
  | nil => simp at hk
  | cons r rs ih =>
    unfold findI
    cases k with
    | zero => rw [if_pos (by simpa using h)]; rfl
    | succ k =>
      have h0 := hn 0 (by omega)
      rw [if_neg (by simpa using h0)]
      have := ih k (by simpa using hk) (by simpa using h) (fun j hj => by have := hn (j + 1) (by omega); simpa using this)
      rw [this]
      split <;> omega
theorem findI_none (rs : List R) (b m : Nat) (h : ∀ r ∈ rs, ¬(r.a = b ∧ r.n = m)) : findI rs b m = -1 := by
  induction rs with
  | nil => rfl
  | cons r rs ih =>
    unfold findI
    rw [if_neg (h r (by simp)), ih (fun r' hr => h r' (by simp [hr]))]
    rfl
theorem findI_mem (rs : List R) (b m : Nat) (h : ∃ r ∈ rs, r.a = b ∧ r.n = m) : 0 ≤ findI rs b m := by
  induction rs with
  | nil => obtain ⟨r, hr, _⟩ := h; cases hr
  | cons r rs ih =>
    unfold findI
    split
    · exact Int.le_refl _
    · rename_i hne
      obtain ⟨r', hr, e⟩ := h
      rcases List.mem_cons.1 hr with rfl | hr
      · exact absurd e hne
      · have := ih ⟨r', hr, e⟩
        rw [if_neg (by omega)]
        omega
theorem bN {B : Nat} {a w : World} {n : Nat} (h : Below B a w) : Below B a (w.drewN n) := ⟨h.os, h.tape, h.output, h.size, h.block⟩
set_option maxRecDepth 8000 in
set_option maxHeartbeats 4000000 in
theorem find_any (w : World) (A : Option Addr) (n cp : Nat) (rs : List R) (hn : n = rs.length) (hl : n ≤ 100000) (h : RtSl w A rs) (b m : Nat) :
    Calls Try.prog 9 #[.slice A n cp, .agg #[.int .u32 (b : Int), .int .u8 (m : Int)]] w fun e w' => e = .returned (.int .i64 (findI rs b m)) ∧ Below w.heap.size w w' := by
  have HN := Lib.hid hn
  have HS := Lib.hid h
  have B0 := (Below.refl w.heap.size w).alloc (Nat.le_refl _) (.cells #[.int .u32 (b : Int), .int .u8 (m : Int)] 32)
  have HO : Hid (Below w.heap.size w (w.alloc (.cells #[.int .u32 (b : Int), .int .u8 (m : Int)] 32)) ∧ (w.alloc (.cells #[.int .u32 (b : Int), .int .u8 (m : Int)] 32)).heap[w.heap.size]? = some (.cells #[.int .u32 (b : Int), .int .u8 (m : Int)] 32 (0, 0)) ∧ ∀ j (hj : j < 0), ∀ hr : j < rs.length, ¬(rs[j].a = b ∧ rs[j].n = m)) := Lib.hid ⟨B0, heap_alloc_new _ _, fun j hj => by omega⟩
  clear hn h B0
  go_enter Try.func9, Try.ntmps9
  go_wp2
  go_loopw [5] (fun i wr => ∃ k : Nat, k ≤ n ∧ i = .int .i64 k ∧ Hid (Below w.heap.size w wr ∧ wr.heap[w.heap.size]? = some (.cells #[.int .u32 (b : Int), .int .u8 (m : Int)] 32 (0, 0)) ∧ ∀ j (hj : j < k), ∀ hr : j < rs.length, ¬(rs[j].a = b ∧ rs[j].n = m))) (fun i _ => n - (intOf i).toNat)
  case atStart => exact ⟨0, by omega, rfl, HO⟩
  case round =>
    obtain ⟨k, hk, rfl, HR⟩ := hrel
    clear HO
    by_cases hlt : k < n
    · have hkr : Hid (k < rs.length) := Lib.hid (by rw [← HN.out]; exact hlt)
      obtain ⟨b0, o0, ea, hb0, hc⟩ := HS.out k hkr.out
      subst ea
      obtain ⟨r, hr⟩ : ∃ r, r = rs[k]'(hkr.out) := ⟨_, rfl⟩
      rw [← hr] at hc
      have HRK := Lib.hid hr
      have HC := Lib.hid (And.intro (hc.keep (HR.out.1.block b0 hb0)) (Nat.lt_of_lt_of_le hb0 HR.out.1.size))
      have hk9 : (k : Int) < n := by omega
      have hk8 : ¬ n ≤ k := by omega
      clear hr hc
      go_upto_region 4 with (fail)
      by_cases he : r.a = b ∧ r.n = m
      · obtain ⟨hea, hen⟩ := he
        refine wp_region_noPanic ?_
        refine wp_region_held_drew (S := fun W : World => Below wr.heap.size wr W) (by kernel_rfl) ((Below.refl _ _).drew) (fun hHeld => ?_)
        generalize wr.drew = wd at *
        refine wpAnyH_take (i := 0) (oi := { dst := some 12, op := Op.move (Operand.tmp 0), type := 29, pos := "law.go:37", after := #[], guard := none }) (v := .slice (some ⟨b0, o0, none⟩) n cp) rfl (by kernel_rfl) (by kernel_rfl) (by kernel_rfl) (fun _ _ _ h => h) (Or.inl ⟨by rfl, fun w hSw => by go_simp⟩) (by assumption) ?_
        try simp only [Act.put, List.setIfInBounds_toArray, List.set_cons_zero, List.set_cons_succ]
        refine wpAnyH_take (i := 1) (oi := { dst := some 13, op := Op.move (Operand.tmp 5), type := 3, pos := "law.go:37", after := #[], guard := none }) (v := .int .i64 (k : Int)) rfl (by kernel_rfl) (by kernel_rfl) (by kernel_rfl) (fun _ _ _ h => h) (Or.inl ⟨by rfl, fun w hSw => by go_simp⟩) (by assumption) ?_
        try simp only [Act.put, List.setIfInBounds_toArray, List.set_cons_zero, List.set_cons_succ]
        refine wpAnyH_take (i := 2) (oi := { dst := some 14, op := Op.indexAddr 29 (Operand.tmp 12) (Operand.tmp 13), type := 0, pos := "law.go:37", after := #[{ on := 0, ground := Ground.data }, { on := 1, ground := Ground.data }], guard := none }) (v := .pointer (some ⟨b0, o0 + k * 5, none⟩)) rfl (by kernel_rfl) (by kernel_rfl) (by kernel_rfl) (fun _ _ _ h => h) (Or.inl ⟨by rfl, fun w hSw => by go_simp⟩) (by assumption) ?_
        try simp only [Act.put, List.setIfInBounds_toArray, List.set_cons_zero, List.set_cons_succ]
        refine wpAnyH_take (i := 3) (oi := { dst := some 15, op := Op.fieldAddr 39 (Operand.tmp 14) 0, type := 0, pos := "law.go:37", after := #[{ on := 2, ground := Ground.data }], guard := none }) (v := .pointer (some ⟨b0, o0 + k * 5, none⟩)) rfl (by kernel_rfl) (by kernel_rfl) (by kernel_rfl) (fun _ _ _ h => h) (Or.inl ⟨by rfl, fun w hSw => by go_simp⟩) (by assumption) ?_
        try simp only [Act.put, List.setIfInBounds_toArray, List.set_cons_zero, List.set_cons_succ]
        refine wpAnyH_take (i := 4) (oi := { dst := some 16, op := Op.load 32 (Operand.tmp 15), type := 32, pos := "law.go:37", after := #[{ on := 3, ground := Ground.data }], guard := none }) (v := .agg #[.int .u32 (r.a : Int), .int .u8 (r.n : Int)]) rfl (by kernel_rfl) (by kernel_rfl) (by kernel_rfl) (fun _ _ _ h => h) (Or.inl ⟨by rfl, fun w hSw => by obtain ⟨q0, q1, q2, q3, q4⟩ := HC.out.1.keep (hSw.block b0 HC.out.2); go_simp⟩) (by assumption) ?_
        try simp only [Act.put, List.setIfInBounds_toArray, List.set_cons_zero, List.set_cons_succ]
        refine wpAnyH_take (i := 5) (oi := { dst := some 17, op := Op.load 32 (Operand.tmp 3), type := 32, pos := "law.go:37", after := #[], guard := none }) (v := .agg #[.int .u32 (b : Int), .int .u8 (m : Int)]) rfl (by kernel_rfl) (by kernel_rfl) (by kernel_rfl) (fun _ _ _ h => h) (Or.inl ⟨by rfl, fun w hSw => by obtain ⟨y0, y1⟩ := row2 ((hSw.block _ (Array.getElem?_eq_some_iff.1 HR.out.2.1).1).trans HR.out.2.1); go_simp⟩) (by assumption) ?_
        try simp only [Act.put, List.setIfInBounds_toArray, List.set_cons_zero, List.set_cons_succ]
        refine wpAnyH_take (i := 6) (oi := { dst := some 18, op := Op.binOp BinOp.eql 32 (Operand.tmp 16) (Operand.tmp 17) 32, type := 4, pos := "law.go:37", after := #[{ on := 4, ground := Ground.data }, { on := 5, ground := Ground.data }], guard := none }) (v := .bool true) rfl (by kernel_rfl) (by kernel_rfl) (by kernel_rfl) (fun _ _ _ h => h) (Or.inl ⟨by rfl, fun w hSw => by go_simp⟩) (by assumption) ?_
        try simp only [Act.put, List.setIfInBounds_toArray, List.set_cons_zero, List.set_cons_succ]
        refine wpAnyH_done (by kernel_rfl) ?_ _
        try unfold NoPanic
        go_wp2
        go_ret
        exact ⟨by rw [findI_at rs b m k (by rw [← HN.out]; exact hlt) (by rw [← HRK.out]; exact ⟨hea, hen⟩) fun j hj => HR.out.2.2 j hj (by have := HN.out; omega)]; rfl, HR.out.1.trans (hHeld.mono HR.out.1.size)⟩
      · have HNE := Lib.hid he
        clear he
        refine wp_region_noPanic ?_
        refine wp_region_held_drew (S := fun W : World => Below wr.heap.size wr W) (by kernel_rfl) ((Below.refl _ _).drew) (fun hHeld => ?_)
        generalize wr.drew = wd at *
        refine wpAnyH_take (i := 0) (oi := { dst := some 12, op := Op.move (Operand.tmp 0), type := 29, pos := "law.go:37", after := #[], guard := none }) (v := .slice (some ⟨b0, o0, none⟩) n cp) rfl (by kernel_rfl) (by kernel_rfl) (by kernel_rfl) (fun _ _ _ h => h) (Or.inl ⟨by rfl, fun w hSw => by go_simp⟩) (by assumption) ?_
        try simp only [Act.put, List.setIfInBounds_toArray, List.set_cons_zero, List.set_cons_succ]
        refine wpAnyH_take (i := 1) (oi := { dst := some 13, op := Op.move (Operand.tmp 5), type := 3, pos := "law.go:37", after := #[], guard := none }) (v := .int .i64 (k : Int)) rfl (by kernel_rfl) (by kernel_rfl) (by kernel_rfl) (fun _ _ _ h => h) (Or.inl ⟨by rfl, fun w hSw => by go_simp⟩) (by assumption) ?_
        try simp only [Act.put, List.setIfInBounds_toArray, List.set_cons_zero, List.set_cons_succ]
        refine wpAnyH_take (i := 2) (oi := { dst := some 14, op := Op.indexAddr 29 (Operand.tmp 12) (Operand.tmp 13), type := 0, pos := "law.go:37", after := #[{ on := 0, ground := Ground.data }, { on := 1, ground := Ground.data }], guard := none }) (v := .pointer (some ⟨b0, o0 + k * 5, none⟩)) rfl (by kernel_rfl) (by kernel_rfl) (by kernel_rfl) (fun _ _ _ h => h) (Or.inl ⟨by rfl, fun w hSw => by go_simp⟩) (by assumption) ?_
        try simp only [Act.put, List.setIfInBounds_toArray, List.set_cons_zero, List.set_cons_succ]
        refine wpAnyH_take (i := 3) (oi := { dst := some 15, op := Op.fieldAddr 39 (Operand.tmp 14) 0, type := 0, pos := "law.go:37", after := #[{ on := 2, ground := Ground.data }], guard := none }) (v := .pointer (some ⟨b0, o0 + k * 5, none⟩)) rfl (by kernel_rfl) (by kernel_rfl) (by kernel_rfl) (fun _ _ _ h => h) (Or.inl ⟨by rfl, fun w hSw => by go_simp⟩) (by assumption) ?_
        try simp only [Act.put, List.setIfInBounds_toArray, List.set_cons_zero, List.set_cons_succ]
        refine wpAnyH_take (i := 4) (oi := { dst := some 16, op := Op.load 32 (Operand.tmp 15), type := 32, pos := "law.go:37", after := #[{ on := 3, ground := Ground.data }], guard := none }) (v := .agg #[.int .u32 (r.a : Int), .int .u8 (r.n : Int)]) rfl (by kernel_rfl) (by kernel_rfl) (by kernel_rfl) (fun _ _ _ h => h) (Or.inl ⟨by rfl, fun w hSw => by obtain ⟨q0, q1, q2, q3, q4⟩ := HC.out.1.keep (hSw.block b0 HC.out.2); go_simp⟩) (by assumption) ?_
        try simp only [Act.put, List.setIfInBounds_toArray, List.set_cons_zero, List.set_cons_succ]
        refine wpAnyH_take (i := 5) (oi := { dst := some 17, op := Op.load 32 (Operand.tmp 3), type := 32, pos := "law.go:37", after := #[], guard := none }) (v := .agg #[.int .u32 (b : Int), .int .u8 (m : Int)]) rfl (by kernel_rfl) (by kernel_rfl) (by kernel_rfl) (fun _ _ _ h => h) (Or.inl ⟨by rfl, fun w hSw => by obtain ⟨y0, y1⟩ := row2 ((hSw.block _ (Array.getElem?_eq_some_iff.1 HR.out.2.1).1).trans HR.out.2.1); go_simp⟩) (by assumption) ?_
        try simp only [Act.put, List.setIfInBounds_toArray, List.set_cons_zero, List.set_cons_succ]
        refine wpAnyH_take (i := 6) (oi := { dst := some 18, op := Op.binOp BinOp.eql 32 (Operand.tmp 16) (Operand.tmp 17) 32, type := 4, pos := "law.go:37", after := #[{ on := 4, ground := Ground.data }, { on := 5, ground := Ground.data }], guard := none }) (v := .bool false) rfl (by kernel_rfl) (by kernel_rfl) (by kernel_rfl) (fun _ _ _ h => h) (Or.inl ⟨by rfl, fun w hSw => by have hnn := HNE.out; go_simp; intro g1 g2; exact hnn ⟨by omega, by omega⟩⟩) (by assumption) ?_
        try simp only [Act.put, List.setIfInBounds_toArray, List.set_cons_zero, List.set_cons_succ]
        refine wpAnyH_done (by kernel_rfl) ?_ _
        try unfold NoPanic
        have HX := Lib.hid (And.intro (HR.out.1.trans (hHeld.mono HR.out.1.size)) ((hHeld.block _ (Array.getElem?_eq_some_iff.1 HR.out.2.1).1).trans HR.out.2.1))
        clear hHeld
        go_wp2
        go_roundw
        case rel => exact ⟨k + 1, by omega, by go_num, Lib.hid ⟨HX.out.1, HX.out.2, fun j hj hr => by
          by_cases hjk : j < k
          · exact HR.out.2.2 j hjk hr
          · obtain rfl : j = k := by omega
            rw [← HRK.out]; exact HNE.out⟩⟩
        case measure => simp [intOf]; omega
    · obtain rfl : k = n := by omega
      go_wp2
      go_ret
      exact ⟨by rw [findI_none rs b m fun r hr => by obtain ⟨j, hj, rfl⟩ := List.getElem_of_mem hr; exact HR.out.2.2 j (by rw [HN.out]; exact hj) hj]; rfl, HR.out.1⟩
end Go.Proofs.Ytfhpcpanjonpeaa.Tri
