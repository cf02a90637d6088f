/- Blocked. -/
import Derived.Test.YtkbhmdoichiinaaRz
namespace Go.Proofs.Ytkbhmdoichiinaa.Rts
open Pre Ser
open Go.Proofs.Ytkbhmdoichiinaa.Src (row1 row2)
open Go.ChangeShapes Go.WideShapes Go.ChangeAt Go.RowKit
set_option maxRecDepth 8000
set_option linter.unusedVariables false

open Go.Proofs.Ytkbhmdoichiinaa.Src (Mk SrcAt)
def clP (p : Nat × Nat) : List Value := [.int .u32 (p.1 : Int), .int .u8 (p.2 : Int)]
theorem info39 : (Try.prog.info? 39).map (fun i => (i.zero, i.size, i.bytes)) = some (some (.agg #[.int .u32 0, .int .u8 0]), 2, 8) := by kernel_rfl
theorem p_one (x : Nat × Nat) : ∀ u ∈ clP x, u.oneCell' = true := by
  intro u hu
  simp [clP] at hu
  rcases hu with rfl | rfl <;> rfl
theorem p_at {w : World} {b : Nat} {x : Nat × Nat} (h : w.heap[b]? = some (.cells #[.int .u32 (x.1 : Int), .int .u8 (x.2 : Int)] 39 (0, 0))) : ∀ j u, (clP x)[j]? = some u → w.cell? ((⟨b, 0, none⟩ : Addr).add j) = some u := fun j u hj => by
  rw [Addr.add_lit, Nat.zero_add, cell_of_row _ _ j _ 39 (0, 0) h, ← hj]
  have : (#[.int .u32 (x.1 : Int), .int .u8 (x.2 : Int)] : Array Value) = (clP x).toArray := rfl
  rw [this]
  simp
theorem papp_run (w : World) (B : Nat) (v : Value) (l : List (Nat × Nat)) (x : Nat × Nat) (b : Nat) (hown : GOwn 39 2 clP w B v l) (hc : w.heap[b]? = some (.cells #[.int .u32 (x.1 : Int), .int .u8 (x.2 : Int)] 39 (0, 0))) (hlen : l.length ≤ 1000) (hB : B ≤ w.heap.size) :
    ∃ v' w', (Builtin.append_ #[59, 59] 59 #[v, .slice (some ⟨b, 0, none⟩) 1 1]).run Try.prog w = .ok v' w' ∧ GOwn 39 2 clP w' B v' (l ++ [x]) ∧ w.grownBy w' v.ownBlock := by
  obtain ⟨i0, hi0, hz0, hz1, hz2⟩ := info_parts info39
  exact gapp_run Try.underlying59 hi0 hz0 hz1 hz2 rfl (by decide) (fun _ => rfl) p_one (by decide) w B v l x b hown (p_at hc) hlen hB
/-- Is something told of it, but nothing feasible? -/
def blk (f : Mk) (M : List E) (a n : Nat) : Bool := !(M.filter (ofp a n)).isEmpty && !(M.filter (ofp a n)).any (feasE f)
def ppk (p : Nat × Nat) : Nat := p.1 * 256 + p.2
structure BlkOK (f : Mk) (M : List E) (bs : List (Nat × Nat)) : Prop where
  up : bs.Pairwise fun x y => ppk x < ppk y
  mem : ∀ p, p ∈ bs ↔ blk f M p.1 p.2 = true
theorem BlkOK.nil (f : Mk) : BlkOK f [] [] := ⟨List.Pairwise.nil, fun p => by simp [blk]⟩
theorem BlkOK.grp {f : Mk} {L : List E} {i j : Nat} {bs : List (Nat × Nat)} (h : BlkOK f (L.take i) bs) (g : Grp L i j) (hr : Rising L) (hL : ∀ e ∈ L, e.Ok) :
    BlkOK f (L.take j) (bs ++ if ((L.drop i).take (j - i)).any (feasE f) then [] else [((L[i]'(Nat.lt_of_lt_of_le g.lt g.le)).a, (L[i]'(Nat.lt_of_lt_of_le g.lt g.le)).n)]) := by
  have hil : i < L.length := Nat.lt_of_lt_of_le g.lt g.le
  have hne : ((L.drop i).take (j - i)).isEmpty = false := by
    rw [List.isEmpty_eq_false_iff]
    intro e
    have := congrArg List.length e
    rw [List.length_take, List.length_drop] at this
    have h1 := g.lt; have h2 := g.le
    simp at this
    omega
  have hz : ∀ a n, ofp a n L[i] = true → (L.take i).filter (ofp a n) = [] := fun a n hp => List.filter_eq_nil_iff.2 fun e he => by
    have hp2 := of_decide_eq_true hp
    obtain ⟨k, hk, rfl⟩ := List.getElem_of_mem he
    rw [List.length_take] at hk
    rw [List.getElem_take]
    obtain ⟨hkl, hlt⟩ := g.ahead hr hL (show k < i by omega)
    intro h2
    have h2 := of_decide_eq_true h2
    unfold E.pk at hlt
    rw [h2.1, h2.2, hp2.1, hp2.2] at hlt
    omega
  have hah : ∀ p ∈ bs, ppk p < L[i].pk := fun p hp => by
    have hm := (h.mem p).1 hp
    unfold blk at hm
    rw [Bool.and_eq_true] at hm
    have hne : (L.take i).filter (ofp p.1 p.2) ≠ [] := fun e => by rw [e] at hm; simp at hm
    obtain ⟨e, he⟩ := List.exists_mem_of_ne_nil _ hne
    obtain ⟨he1, he2⟩ := List.mem_filter.1 he
    obtain ⟨k, hk, rfl⟩ := List.getElem_of_mem he1
    rw [List.length_take] at hk
    rw [List.getElem_take] at he2
    obtain ⟨hkl, hlt⟩ := g.ahead hr hL (show k < i by omega)
    have h2 := of_decide_eq_true he2
    unfold E.pk at hlt ⊢
    unfold ppk
    rw [← h2.1, ← h2.2]; exact hlt
  refine ⟨?_, fun p => ?_⟩
  · rw [List.pairwise_append]
    refine ⟨h.up, ?_, fun x hx y hy => ?_⟩
    · split
      · exact List.Pairwise.nil
      · exact List.pairwise_singleton _ _
    · split at hy
      · simp at hy
      · rw [List.mem_singleton] at hy
        subst hy
        exact hah x hx
  · rw [List.mem_append, h.mem p]
    have hf := g.filter hr hL p.1 p.2
    unfold blk
    rw [hf]
    by_cases hp : ofp p.1 p.2 L[i] = true
    · rw [if_pos hp, hz _ _ hp, hne]
      have hp2 := of_decide_eq_true hp
      cases ((L.drop i).take (j - i)).any (feasE f) with
      | true => simp
      | false =>
        have : p = (L[i].a, L[i].n) := by
          obtain ⟨p1, p2⟩ := p
          simp only at hp2
          rw [hp2.1, hp2.2]
        simp [this]
    · rw [if_neg hp]
      constructor
      · rintro (h | h)
        · exact h
        · exfalso
          split at h
          · simp at h
          · rw [List.mem_singleton] at h
            subst h
            exact hp (decide_eq_true ⟨rfl, rfl⟩)
      · exact Or.inl
theorem idx_ge {p : E → Bool} {L : List E} : decide (0 ≤ idxV p L) = L.any p := by
  unfold idxV
  cases h : L.any p with
  | true => rw [if_pos rfl]; exact decide_eq_true (by omega)
  | false => rw [if_neg (by simp)]; rfl
theorem contains_any (w : World) (A : Option Addr) (n c : Nat) (G : List E) (hn : n = G.length) (hlen : n ≤ 1000) (hsl : ESl w A G) (hG : ∀ e ∈ G, e.Ok) (ls qs cs sb : Nat) (f : Mk) (hs : SrcAt ls w qs f cs) (hb : w.heap[sb]? = some (.cells #[.pointer (some ⟨qs, 0, none⟩)] 46 (0, 0))) :
    Calls Try.prog 40 #[.slice A n c, .func (.func 57) #[] #[.pointer (some ⟨sb, 0, none⟩)]] w fun en w' => en = .returned (.bool (G.any (feasE f))) ∧ Below w.heap.size w w' := by
  have c60 := idxf_any w A n c G hn hlen hsl hG (feasE f) 57 sb (enters_of Try.func57 (by kernel_rfl) rfl) (fun W e B he => feasp_any W ls qs cs sb f (hs.below B) (brow B hb) e he)
  have hge := idx_ge (p := feasE f) (L := G)
  obtain ⟨z, hz⟩ : ∃ z, z = idxV (feasE f) G := ⟨_, rfl⟩
  rw [← hz] at c60 hge
  have HC := Lib.hid (And.intro c60 hge)
  clear c60 hge hz hn hsl hG hs hb
  go_enter Try.func40, Try.ntmps40
  go_wp2_with (go_at_call 60; (with_reducible refine HC.out.1.mono ?_); rintro en w3 ⟨rfl, B3⟩; have H3 := Lib.hid B3; clear B3)
  go_ret
  exact ⟨by rw [← HC.out.2]; rfl, H3.out⟩
end Go.Proofs.Ytkbhmdoichiinaa.Rts
