/- What is read of a shelf: Read; copies of bytes and of maps. -/
import Derived.Test.YtkalgonkaoiapaaSht
import Derived.Ground.SlmcProg
import Derived.Shelf.Lay
import Derived.WalkSpells
import Derived.Shelf.SlMaps.Clone
namespace Go.Proofs
open Go.Shelf
def Try.clone45_ren : Go.Shelf.Ren := ⟨fun | 5 => 45 | 7 => 60 | n => n, fun | 23 => 58 | 25 => 9 | 3 => 62 | 4 => 4 | 20 => 20 | n => n, fun | n => n⟩
theorem Try.clone45 : Go.Proofs.SlLaysW.n5 Try.prog Try.clone45_ren := {
  mixed := by kernel_rfl
  f5 := ⟨Try.f45.name, by decide, Try.func45.trans (congrArg some (by kernel_rfl))⟩
  f7 := Try.func60.trans (congrArg some (by kernel_rfl))
  t4 := Try.underlying4
  a4 := Try.isAgg4
  z4 := Try.sizeOf4
  v4 := Try.zeroValue4
  t20 := Try.underlying20
  a20 := Try.isAgg20
  z20 := Try.sizeOf20
  v20 := Try.zeroValue20
  t23 := Try.underlying58
  a23 := Try.isAgg58
  z23 := Try.sizeOf58
  v23 := Try.zeroValue58 }
end Go.Proofs
namespace Go.Proofs.Ytkalgonkaoiapaa.Shf
open Go.ChangeShapes Go.WideShapes Go.ChangeAt Go.RowKit Go.Shelf Go.Maps

theorem clone_any (w : World) (v : Value) (n : Nat) (l : List (S × Nat)) (h : NMv w v n l) : Calls Try.prog 45 #[v] w fun e w' => ∃ v', e = .returned v' ∧ NMv w' v' n l ∧ (∀ b, mapBlock v' = some b → w.heap.size ≤ b) ∧ Below w.heap.size w w' := by
  rcases h with ⟨rfl, rfl⟩ | ⟨b, rfl, D, h1, h2⟩
  · refine (AnyW.maps_Clone_nil Try.clone45 w).mono ?_
    rintro e w' ⟨rfl, rfl⟩
    exact ⟨_, rfl, Or.inl ⟨rfl, rfl⟩, fun b h => (by cases h), Below.refl _ _⟩
  · refine (AnyW.maps_Clone_owns Try.clone45 9 ptrR b n D w h1).mono ?_
    rintro e w' ⟨rfl, k1, _, hB⟩
    exact ⟨_, rfl, Or.inr ⟨w.heap.size, rfl, D, k1, h2⟩, fun b h => by cases h; exact Nat.le_refl _, hB⟩
theorem run_eql22 (w : World) (a : Option Addr) (l c : Nat) : (binOp .eql 22 (.slice a l c) (.slice none 0 0)).run Try.prog w = .ok (.bool a.isNone) w := by
  simp only [binOp]
  simp [Op.equal, Op.maxDepth, Lib.run_equalIn_slice_nil w 9999 22 5 a l c 0 0 Try.underlying22]
/-- Bytes of the call's own. -/
def Fresh (w : World) (B : Nat) (v : Value) (l : List UInt8) : Prop := Own w v l ∧ ∀ b, v.ownBlock = some b → B ≤ b
set_option maxRecDepth 4000 in
theorem bytes_clone (w : World) (A : Option Addr) (l : List UInt8) (c : Nat) (hr : Rd w A l) (hA : A = none → c = 0 ∧ l = []) (hl : l.length ≤ 1000000000) :
    Calls Try.prog 47 #[.slice A l.length c] w fun e w' => ∃ v', e = .returned v' ∧ Fresh w' w.heap.size v' l ∧ Below w.heap.size w w' := by
  cases A with
  | none =>
    have hq := fun w => run_eql22 w none 0 0
    obtain ⟨rfl, rfl⟩ := hA rfl
    go_enter Try.func47, Try.ntmps47
    go_wp2
    go_ret
    exact ⟨_, rfl, ⟨Or.inl ⟨rfl, rfl⟩, fun b h => (by cases h)⟩, Below.refl _ _⟩
  | some ad =>
    have hO : Own (w.alloc (.cells #[] 5)) (.slice (some ⟨w.heap.size, 0, none⟩) 0 0) [] := Or.inr ⟨w.heap.size, 0, #[], rfl, alloc1 w _, Nat.le_refl _, by unfold maxLen; omega, Nat.le_refl _, rfl⟩
    have hB : Below w.heap.size w (w.alloc (.cells #[] 5)) := (Below.refl _ w).alloc (Nat.le_refl _) _
    have hr' : Rd (w.alloc (.cells #[] 5)) (some ad) l := hr.at (fun a e h0 => by
      obtain ⟨a', e', hc⟩ := hr h0
      injection e with e; injection e' with e'
      subst e; subst e'
      have h0' := hc 0 h0
      refine Below.heap_alloc w _ _ ?_
      rcases Nat.lt_or_ge ad.block w.heap.size with h | h
      · exact h
      · have : (ad.add 0).block = ad.block := block_add _ _
        simp [World.cell?, this, Array.getElem?_eq_none h] at h0')
    obtain ⟨n, hn⟩ : ∃ n, n = l.length := ⟨_, rfl⟩
    rw [← hn]
    have HO := Lib.hid hO
    have HB := Lib.hid hB
    have HR := Lib.hid hr'
    have HN := Lib.hid hn
    have hq := fun w => run_eql22 w (some ad) n c
    clear hO hB hr' hr hn hA
    go_enter Try.func47, Try.ntmps47
    go_wp2_with (first | (at_builtin; refine own_app rfl _ _ rfl _ [] l (some ad) _ c rfl rfl HN.out HO.out HR.out (fun h => by cases h) (by simp; omega) ?_; intro A' k c' w3 hk O3 G3 W3) | go_in)
    go_ret
    refine ⟨.slice A' k c', rfl, ⟨by simpa using O3, fun b hb => ?_⟩, ?_⟩
    · rcases W3 with h | h
      · rw [h] at hb; injection hb with hb; rw [← hb]; exact Nat.le_refl _
      · rw [h] at hb; simp at hb; omega
    · exact HB.out.grown G3 (by simp) (fun k hk => by injection hk with hk; rw [← hk]; exact Nat.le_refl _)
theorem read_nil (w : World) (nm : ByteArray) : Calls Try.prog 18 #[.pointer none, .string nm] w fun e w' => e = .returned (.tuple #[.slice none 0 0, .int .i64 7]) ∧ w = w' := by
  go_enter Try.func18, Try.ntmps18
  go_wp2_with (first | (go_at_call 22; refine (on_nil _).mono ?_; rintro e w' ⟨rfl, rfl⟩))
  go_ret2
  exact ⟨rfl, rfl⟩
/-- What Read tells. -/
def M.readE (m : M) (name : S) : Nat := if m.fallen then 7 else match get m.now name with | none => 2 | some _ => 0
def M.readP (m : M) (name : S) : S := if m.fallen then [] else match get m.now name with | none => [] | some b => (m.fl b).1
set_option maxRecDepth 4000 in
theorem read_rep (w : World) (T : Nat → Tag) (q : Nat) (m : M) (name : S) (R : Rep w T q m) (hl : name.length ≤ 1000) :
    Calls Try.prog 18 #[.pointer (some ⟨q, 0, none⟩), .string (str name)] w fun e w' => ∃ v, e = .returned (.tuple #[v, .int .i64 (m.readE name : Int)]) ∧ Fresh w' w.heap.size v (m.readP name) ∧ Below w.heap.size w w' := by
  obtain ⟨⟨nv, sv, mv, nn, ns, RV⟩, F⟩ := R
  have c22 := on_any w q m nv sv mv RV.sh
  have hk := RV.nm.look (s := name) (by omega)
  have y1 : w.cell? ⟨q, 1, none⟩ = some nv := RV.sh.cell 1
  obtain ⟨nm, hnm⟩ : ∃ nm, nm = str name := ⟨_, rfl⟩
  rw [← hnm] at hk ⊢
  cases hf : m.fallen with
  | true =>
    rw [hf] at c22
    rw [show m.readE name = 7 by simp [M.readE, hf], show m.readP name = [] by simp [M.readP, hf]]
    clear RV F hnm hf
    go_enter Try.func18, Try.ntmps18
    go_wp2_with (first | (go_at_call 22; refine c22.mono ?_; rintro e w' ⟨rfl, rfl⟩))
    go_ret2
    exact ⟨_, rfl, ⟨Or.inl ⟨rfl, rfl⟩, fun b h => (by cases h)⟩, Below.refl _ _⟩
  | false =>
    rw [hf] at c22
    cases hg : get m.now name with
    | none =>
      rw [hg] at hk
      rw [show m.readE name = 2 by simp [M.readE, hf, hg], show m.readP name = [] by simp [M.readP, hf, hg]]
      simp only [ptrV] at hk
      clear RV F hnm hf hg
      go_enter Try.func18, Try.ntmps18
      go_wp2_with (first | (go_at_call 22; refine c22.mono ?_; rintro e w' ⟨rfl, rfl⟩))
      go_ret2
      exact ⟨_, rfl, ⟨Or.inl ⟨rfl, rfl⟩, fun b h => (by cases h)⟩, Below.refl _ _⟩
    | some b =>
      rw [hg] at hk
      have hm := mem_get hg
      have hT := RV.lnow _ hm
      obtain ⟨v, k1, k2, _, _⟩ := RV.fl b hT
      have hle := tot_le (fl := m.fl) hm
      have hnd := F.named
      have hby := F.bytes
      rw [show m.readE name = 0 by simp [M.readE, hf, hg], show m.readP name = (m.fl b).1 by simp [M.readP, hf, hg]]
      simp only [ptrV] at hk
      obtain ⟨A, c, rfl, r1, r2, r3, _⟩ := k2.form
      have hA : A = none → c = 0 ∧ (m.fl b).1 = [] := fun e => ⟨r3 e, List.eq_nil_of_length_eq_zero (by have := r3 e; omega)⟩
      have c47 := bytes_clone w A (m.fl b).1 c r1 hA (by omega)
      have y0 := k1.cell0
      generalize (m.fl b).1 = pl at *
      obtain ⟨n, hn⟩ : ∃ n, n = pl.length := ⟨_, rfl⟩
      rw [← hn] at y0 c47
      clear RV F hnm hf hg hm hT k1 k2 hle hnd hby r1 r2 r3 hA hn
      go_enter Try.func18, Try.ntmps18
      go_wp2_with (first
        | (go_at_call 22; refine c22.mono ?_; rintro e w' ⟨rfl, rfl⟩)
        | (go_at_call 47; refine c47.mono ?_; rintro e w2 ⟨v', rfl, h1, h2⟩))
      go_ret2
      exact ⟨_, rfl, h1, h2⟩
end Go.Proofs.Ytkalgonkaoiapaa.Shf
