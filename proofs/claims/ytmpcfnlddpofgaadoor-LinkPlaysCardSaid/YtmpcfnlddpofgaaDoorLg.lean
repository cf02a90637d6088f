/- Links: hellos some of which are lost. -/
import Derived.Test.YtmpcfnlddpofgaaDoorLe
import Derived.Deep.Grids
import Derived.Deep.AppendLies
import Derived.Lib.SmallJoins
import Derived.Laws.AppendOwn
import Derived.OwnWalk
import Derived.Lib.AppendZeros
namespace Go.Proofs.YtmpcfnlddpofgaaDoor.Lk
open Go.ChangeShapes Go.WideShapes Go.ChangeAt Go.RowKit
set_option linter.unusedVariables false

/-- What the walk is told of a slice of bools that came in. -/
def IsBools (w : World) (a : Option Addr) (len cap : Nat) (z : Nat → Bool) : Prop :=
  (a = none ∧ len = 0 ∧ cap = 0) ∨ ∃ x, a = some x ∧ len ≤ cap ∧ cap ≤ maxLen ∧ ∀ i, i < cap → w.cell? (x.add i) = some (.bool (z i))
theorem bools_of {H : Type} {enc : TypeId × Value → H} {w : World} {base fuel : Nat} {cs : List Value} {x : DataW H × List MemPlace} (h : DataW.trod enc Tryd.prog w base (fun _ => true) true fuel 27 cs = some x) :
    ∃ a len cap z, cs = [.slice a len cap] ∧ IsBools w a len cap z := by
  rcases Go.Deep.open_bools Tryd.underlying27 Tryd.underlying4 (by kernel_rfl) h with ⟨rfl, _⟩ | ⟨a, len, cap, B, rfl, _, hl, hm, _, hc⟩
  · exact ⟨none, 0, 0, fun _ => false, rfl, .inl ⟨rfl, rfl, rfl⟩⟩
  · exact ⟨some a, len, cap, B, rfl, .inr ⟨a, rfl, hl, hm, hc⟩⟩
theorem IsBools.cell {w : World} {a : Option Addr} {len cap : Nat} {z : Nat → Bool} (h : IsBools w a len cap z) (h0 : 0 < len) :
    ∃ b o, a = some ⟨b, o, none⟩ ∧ b < w.heap.size ∧ len ≤ cap ∧ ∀ j, j < len → w.cell? ⟨b, o + j, none⟩ = some (.bool (z j)) := by
  rcases h with ⟨_, h1, _⟩ | ⟨x, rfl, hl, _, hc⟩
  · omega
  · obtain ⟨b, o, sp⟩ := x
    have hsp : sp = none := by simpa [Addr.add] using World.cell?_spot (hc 0 (by omega))
    subst hsp
    have e : ∀ j, (⟨b, o, none⟩ : Addr).add j = ⟨b, o + j, none⟩ := fun j => by
      unfold Addr.add; split
      · rename_i h; subst h; rfl
      · rfl
    refine ⟨b, o, rfl, ?_, hl, fun j hj => by rw [← e]; exact hc j (by omega)⟩
    have := hc 0 (by omega)
    rw [e] at this
    exact block_lt_of_cell this

/-- What came, as cells. -/
def cm (z : Nat → Bool) (i : Nat) : List Value := (List.range i).map fun j => .bool (!z j)
theorem cm_succ (z : Nat → Bool) (i : Nat) : cm z (i + 1) = cm z i ++ [.bool (!z i)] := by
  unfold cm; rw [List.range_succ, List.map_append]; rfl
theorem cm_len (z : Nat → Bool) (i : Nat) : (cm z i).length = i := by unfold cm; simp
theorem cm_at (z : Nat → Bool) (i j : Nat) (h : j < i) : (cm z i)[j]? = some (.bool (!z j)) := by
  unfold cm; simp [h]
/-- How many of the last d came. -/
def cn (z : Nat → Bool) (n : Nat) : Nat → Nat
  | 0 => 0
  | d + 1 => cn z n d + (if z (n - 1 - d) then 0 else 1)
/-- The link behind what came. -/
def Lm (z : Nat → Bool) (i : Nat) (l : L) : Prop :=
  (l.c = 0 ∧ ∀ j, j < i → z j = true) ∨ ∃ p, p < i ∧ z p = false ∧ (∀ j, p < j → j < i → z j = true) ∧ l.c % 2 = 1 ∧ l.n = p
theorem Lm.lost {z : Nat → Bool} {i : Nat} {l : L} (h : Lm z i l) (hz : z i = true) : Lm z (i + 1) l := by
  rcases h with ⟨h0, h1⟩ | ⟨p, h0, h1, h2, h3⟩
  · refine .inl ⟨h0, fun j hj => ?_⟩
    rcases Nat.lt_or_ge j i with hl | hl
    · exact h1 j hl
    · obtain rfl : j = i := by omega
      exact hz
  · refine .inr ⟨p, by omega, h1, fun j hp hj => ?_, h3⟩
    rcases Nat.lt_or_ge j i with hl | hl
    · exact h2 j hp hl
    · obtain rfl : j = i := by omega
      exact hz
theorem Lm.came {z : Nat → Bool} {i : Nat} {l : L} (now : Nat) (hz : z i = false) : Lm z (i + 1) (l.hello i now) :=
  .inr ⟨i, by omega, hz, fun j h1 h2 => by omega, (hello_c l i now).1, rfl⟩
/-- What the law asks of the link. -/
theorem Lm.asks {z : Nat → Bool} {i d g : Nat} {l : L} (h : Lm z i l) (now : Nat) (hz : z i = false) (hd : d = 3 ∨ d = i + 1) (hd3 : d ≤ 3) (hdi : d ≤ i + 1)
    (hg : ∀ t, t < i → i ≤ t + g → z t = true) (hgi : g ≤ i) (he : g = i ∨ z (i - 1 - g) = false) :
    (recv (l.hello i now).c = 96 ∧ g < 16 ∧ 2 ≤ cn z (i + 1) d) ∨ (recv (l.hello i now).c = 65535 ∧ (16 ≤ g ∨ cn z (i + 1) d < 2)) := by
  have hc1 : 1 ≤ d → cn z (i + 1) 1 = 1 := fun _ => by simp [cn, hz]
  have hlow : (∀ j, j < i → i ≤ j + 2 → z j = true) → cn z (i + 1) d < 2 := fun hall => by
    have e0 : z (i + 1 - 1 - 0) = false := hz
    rcases (show d = 0 ∨ d = 1 ∨ d = 2 ∨ d = 3 by omega) with rfl | rfl | rfl | rfl
    · simp [cn]
    · simp [cn, hz]
    · have e1 := hall (i + 1 - 1 - 1) (by omega) (by omega)
      simp only [cn, e0, e1]; simp
    · have e1 := hall (i + 1 - 1 - 1) (by omega) (by omega)
      have e2 := hall (i + 1 - 1 - 2) (by omega) (by omega)
      simp only [cn, e0, e1, e2]; simp
  rcases h with ⟨h0, h1⟩ | ⟨p, h0, h1, h2, h3, h4⟩
  · right
    rw [hello_first l i now h0]
    exact ⟨rfl, .inr (hlow fun j hj _ => h1 j hj)⟩
  · have hst : l.steps i = i - p := by
      unfold L.steps; rw [tz_odd _ h3, if_neg (by omega), h4]; rfl
    have hcc : (l.hello i now).c = sh l.c (i - p) + 1 := by unfold L.hello; rw [hst]
    rw [hcc]
    have hgp : g = i - 1 - p := by
      rcases Nat.lt_trichotomy g (i - 1 - p) with hl | hl | hl
      · rcases he with he | he
        · omega
        · have := h2 (i - 1 - g) (by omega) (by omega)
          rw [this] at he; cases he
      · exact hl
      · have := hg p h0 (by omega)
        rw [this] at h1; cases h1
    have e0 : z (i + 1 - 1 - 0) = false := hz
    rcases (show i - p = 1 ∨ i - p = 2 ∨ 3 ≤ i - p by omega) with hs | hs | hs
    · left
      rw [hs]
      refine ⟨?_, by omega, ?_⟩
      · have e : sh l.c 1 = l.c * 2 % 65536 := by unfold sh; rfl
        rw [e]
        unfold recv
        rw [if_pos (by omega)]
      · have e1 : z (i + 1 - 1 - 1) = false := by rw [show i + 1 - 1 - 1 = p by omega]; exact h1
        rcases (show d = 2 ∨ d = 3 by omega) with rfl | rfl
        · simp only [cn, e0, e1]; simp
        · simp only [cn, e0, e1]; simp
    · left
      rw [hs]
      refine ⟨?_, by omega, ?_⟩
      · have e : sh l.c 2 = l.c * 4 % 65536 := by unfold sh; rfl
        rw [e]
        unfold recv
        rw [if_pos (by omega)]
      · have e2 : z (i + 1 - 1 - 2) = false := by rw [show i + 1 - 1 - 2 = p by omega]; exact h1
        obtain rfl : d = 3 := by omega
        simp only [cn, e0, e2]; simp
    · right
      refine ⟨?_, .inr (hlow fun j hj hj2 => h2 j (by omega) hj)⟩
      have e : sh l.c (i - p) % 8 = 0 := by
        unfold sh
        obtain ⟨m, hm⟩ : ∃ m, min (i - p) 16 = m + 3 := ⟨min (i - p) 16 - 3, by omega⟩
        rw [hm, Nat.pow_add, ← Nat.mul_assoc]
        omega
      unfold recv
      rw [if_neg (by omega)]

theorem infoB : ∃ i, Tryd.prog.info? 4 = some i ∧ i.zero = some (.bool false) ∧ i.size = 1 ∧ i.bytes = 1 := info_parts (by kernel_rfl)
/-- The list of what came lies apart from the link. -/
theorem own_apart {w : World} {q B n : Nat} {l : L} {v : Value} {xs : List Value} (h : LkAt w q l) (ho : w.ownsRow B 4 1 v n xs) : v.ownBlock ≠ some q := by
  intro e
  rcases ho.2 with ⟨rfl, _⟩ | ⟨g, cap, cur, rfl, _, hg, _⟩
  · cases e
  · simp [Value.ownBlock] at e
    subst e
    unfold LkAt at h
    rw [h] at hg
    cases hg
structure Mis (w0 w : World) (q : Nat) (z : Nat → Bool) (i : Nat) (l : L) (v : Value) : Prop where
  in' : In w0 w q l
  ok : l.Ok
  own : w.ownsRow w0.heap.size 4 1 v i (cm z i)
  li : Lm z i l
theorem app_bool {w0 w : World} {q i : Nat} {z : Nat → Bool} {l : L} {v : Value} (hin : In w0 w q l) (hown : w.ownsRow w0.heap.size 4 1 v i (cm z i)) (hi : i ≤ 1000) (b : Bool) (hb : b = !z i) :
    ∃ v' w', (Builtin.append_ #[27, 27] 27 #[v, .slice (some ⟨w.heap.size, 0, none⟩) 1 1]).run Tryd.prog (w.alloc (.cells #[.bool b] 4)) = .ok v' w' ∧ In w0 w' q l ∧ w'.ownsRow w0.heap.size 4 1 v' (i + 1) (cm z (i + 1)) := by
  obtain ⟨i0, hi0, hz0, hz1, hz2⟩ := infoB
  have hsz := hin.below.size
  obtain ⟨v', w', h1, h2, h3, h4, h5⟩ := run_append_own_at (P := Tryd.prog) (w.alloc (.cells #[.bool b] 4)) w0.heap.size 27 27 4 i0 (.bool false) 1 1 Tryd.underlying27 hi0 hz0 hz1 hz2 rfl (by decide) v i (cm z i) (hown.alloc _) ⟨w.heap.size, 0, none⟩ 1 1 [.bool b] rfl (fun j u hj => by
    rcases j with _ | j
    · simp at hj
      subst hj
      simp [Addr.add, go_sem]
    · simp at hj) (fun u hu => by simp at hu; subst hu; rfl) (by unfold maxLen; omega) (by omega) (by simp; omega)
  refine ⟨v', w', h1, ⟨?_, ?_, hin.le, hin.tab⟩, by rw [cm_succ, ← hb]; exact h2⟩
  · have hq := hin.at'.lt
    have e1 := h3.block q (by simp; omega) (fun e => own_apart hin.at' hown e.symm)
    exact hin.at'.keep (e1.trans (heap_alloc_old w _ hq))
  · have hB : Below w0.heap.size w0 (w.alloc (.cells #[.bool b] 4)) := hin.below.alloc hsz _
    refine ⟨h3.os.trans hB.os, h3.tape.trans hB.tape, h3.output.trans hB.output, Nat.le_trans hB.size h3.size, fun k hk => ?_⟩
    refine (h3.block k (by simp; omega) (fun e => ?_)).trans (hB.block k hk)
    have := (hown.lt k e.symm).1
    omega
theorem down {p d n : Nat} (h : p + 1 + d = n) : (∃ p' : Nat, (p : Int) - 1 = p' ∧ p' + 1 + (d + 1) = n) ∨ ((p : Int) - 1 = -1 ∧ d + 1 = n) := by
  rcases Nat.eq_zero_or_pos p with h0 | h0
  · right; omega
  · left; exact ⟨p - 1, by omega, by omega⟩
theorem down2 {n i : Nat} (h : n = i + 1) : (∃ p : Nat, (n : Int) - 2 = p ∧ p + 1 + 0 = i) ∨ ((n : Int) - 2 = -1 ∧ 0 = i) := by
  rcases Nat.eq_zero_or_pos i with h0 | h0
  · right; omega
  · left; exact ⟨i - 1, by omega, by omega⟩
theorem Mis.lost {w0 w : World} {q i : Nat} {z : Nat → Bool} {l : L} {v : Value} (h : Mis w0 w q z i l v) (hi : i ≤ 1000) (hz : z i = true) :
    ∃ g c w', (Builtin.append_ #[27, 27] 27 #[v, .slice (some ⟨w.heap.size, 0, none⟩) 1 1]).run Tryd.prog (w.alloc (.cells #[.bool false] 4)) = .ok (.slice (some ⟨g, 0, none⟩) (i + 1) c) w' ∧ Mis w0 w' q z (i + 1) l (.slice (some ⟨g, 0, none⟩) (i + 1) c) := by
  obtain ⟨v', w', hr, hin, hown⟩ := app_bool h.in' h.own hi false (by rw [hz]; rfl)
  obtain ⟨g, c, rfl⟩ := Joins.ownsRow_form hown (by omega)
  exact ⟨g, c, w', hr, hin, h.ok, hown, h.li.lost hz⟩
theorem Mis.came {w0 w : World} {q i : Nat} {z : Nat → Bool} {l : L} {v : Value} (h : Mis w0 w q z i l v) (hi : i ≤ 1000) (hz : z i = false) :
    ∃ g c w', (Builtin.append_ #[27, 27] 27 #[v, .slice (some ⟨w.heap.size, 0, none⟩) 1 1]).run Tryd.prog (w.alloc (.cells #[.bool true] 4)) = .ok (.slice (some ⟨g, 0, none⟩) (i + 1) c) w' ∧
      Calls Tryd.prog 10 #[.pointer (some ⟨q, 0, none⟩), .int .u64 i, .int .u64 (2 * (i : Int))] w' fun e w'' => e = .returned (.tuple #[]) ∧ Hid (Mis w0 w'' q z (i + 1) (l.hello i (2 * i)) (.slice (some ⟨g, 0, none⟩) (i + 1) c)) := by
  obtain ⟨v', w', hr, hin, hown⟩ := app_bool h.in' h.own hi true (by rw [hz]; rfl)
  obtain ⟨g, c, rfl⟩ := Joins.ownsRow_form hown (by omega)
  refine ⟨g, c, w', hr, ?_⟩
  have := hello_any w' q l i (2 * i) hin.at' h.ok hin.tabw (by omega) (by omega)
  rw [show ((2 * i : Nat) : Int) = 2 * (i : Int) by simp] at this
  exact this.mono fun e w'' ⟨he, ha, hg⟩ => ⟨he, Lib.hid ⟨hin.grown ha hg, hello_ok l i (2 * i) h.ok (by omega) (by omega), hown.kept hg (.inr (own_apart hin.at' hown)), Lm.came _ hz⟩⟩
theorem Mis.cell {w0 w : World} {q n g c : Nat} {z : Nat → Bool} {l : L} (h : Mis w0 w q z n l (.slice (some ⟨g, 0, none⟩) n c)) (p : Nat) (hp : p < n) : w.cell? ⟨g, p, none⟩ = some (.bool (!z p)) := by
  rw [h.own.cellAt p (by omega), cm_at z n p hp]
theorem Mis.receives {w0 w : World} {q n : Nat} {z : Nat → Bool} {l : L} {v : Value} (h : Mis w0 w q z n l v) (r : Nat) (hr : r = recv l.c) :
    Calls Tryd.prog 13 #[.pointer (some ⟨q, 0, none⟩)] w fun e w' => e = .returned (.int .u16 (r : Nat)) ∧ Hid (Mis w0 w' q z n l v) :=
  (receives_any w q l h.in'.at' h.ok.c).mono fun _ _ ⟨e, m, hm⟩ => ⟨by rw [hr]; exact e, Lib.hid (by rw [hm]; exact ⟨h.in'.drew m, h.ok, h.own, h.li⟩)⟩
theorem Mis.alive {w0 w : World} {q n : Nat} {z : Nat → Bool} {l : L} {v : Value} (h : Mis w0 w q z n l v) (hl : l.c % 2 = 1) :
    Calls Tryd.prog 15 #[.pointer (some ⟨q, 0, none⟩)] w fun e w' => e = .returned (.bool true) ∧ w = w' :=
  alive_any w q l h.in'.at' true (by simp; omega)
end Go.Proofs.YtmpcfnlddpofgaaDoor.Lk
