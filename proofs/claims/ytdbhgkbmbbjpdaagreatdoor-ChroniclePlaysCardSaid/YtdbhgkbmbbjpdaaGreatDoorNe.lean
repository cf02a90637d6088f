/- A chronicle in memory: its records, its volumes, itself. -/
import Derived.Test.YtdbhgkbmbbjpdaaGreatDoorNd
import Derived.ArgAppend
namespace Go.Proofs.YtdbhgkbmbbjpdaaGreatDoor.Chr
open Go.ChangeShapes Go.WideShapes Go.ChangeAt Go.RowKit
open Shf (S str)
open Coin (Rd Row Own sz coin got Pur takeV endV CoinSaid)
open Frm (pack err size kind cnt body noItem itemV OneSaid)
set_option maxRecDepth 8000
open Shf (Tag)
def OwnO (w : World) (e : TypeId) (sz : Nat) (v : Value) (n : Nat) (xs : List Value) (gl : Option Nat) : Prop :=
  xs.length = n * sz ∧ ∃ A cap, v = .slice A n cap ∧ n ≤ cap ∧ cap ≤ maxLen ∧ (A = none → cap = 0) ∧ (cap = 0 → gl = none) ∧
    (0 < cap → ∃ g off cur, A = some ⟨g, off, none⟩ ∧ gl = some g ∧ w.heap[g]? = some (.cells cur e (0, 0)) ∧ off + cap * sz ≤ cur.size ∧ (cur.toList.drop off).take (n * sz) = xs)
theorem OwnO.nil (w : World) (e : TypeId) (sz : Nat) : OwnO w e sz (.slice none 0 0) 0 [] none :=
  ⟨by simp, none, 0, rfl, Nat.le_refl _, Nat.zero_le _, fun _ => rfl, fun _ => rfl, fun h => absurd h (by decide)⟩
theorem OwnO.keep {w w' : World} {e : TypeId} {sz : Nat} {v : Value} {n : Nat} {xs : List Value} {gl : Option Nat} (h : OwnO w e sz v n xs gl) (hk : ∀ g, gl = some g → w'.heap[g]? = w.heap[g]?) : OwnO w' e sz v n xs gl := by
  obtain ⟨h0, A, cap, h1, h2, h3, h4, h5, h6⟩ := h
  refine ⟨h0, A, cap, h1, h2, h3, h4, h5, fun hc => ?_⟩
  obtain ⟨g, off, cur, k1, k2, k3, k4, k5⟩ := h6 hc
  exact ⟨g, off, cur, k1, k2, (hk g k2).trans k3, k4, k5⟩
theorem OwnO.lt {w : World} {e : TypeId} {sz : Nat} {v : Value} {n : Nat} {xs : List Value} {gl : Option Nat} (h : OwnO w e sz v n xs gl) : ∀ g, gl = some g → g < w.heap.size ∧ ∃ cur, w.heap[g]? = some (.cells cur e (0, 0)) := fun g hg => by
  obtain ⟨h0, A, cap, h1, h2, h3, h4, h5, h6⟩ := h
  rcases Nat.eq_zero_or_pos cap with hc | hc
  · rw [h5 hc] at hg; cases hg
  · obtain ⟨g', off, cur, k1, k2, k3, k4, k5⟩ := h6 hc
    rw [hg] at k2
    injection k2 with k2
    subst k2
    exact ⟨(Array.getElem?_eq_some_iff.1 k3).1, cur, k3⟩
theorem OwnO.of {w : World} {base : Nat} {e : TypeId} {sz : Nat} {v : Value} {n : Nat} {xs : List Value} (h : w.ownsRow base e sz v n xs) : ∃ gl, OwnO w e sz v n xs gl ∧ ∀ g, gl = some g → base ≤ g := by
  obtain ⟨h0, ⟨rfl, rfl⟩ | ⟨g, cap, cur, rfl, hb, hg, hn, hm, hs, ht⟩⟩ := h
  · refine ⟨none, ?_, fun g h => by cases h⟩
    obtain rfl : xs = [] := List.eq_nil_of_length_eq_zero (by simpa using h0)
    exact OwnO.nil w e sz
  · rcases Nat.eq_zero_or_pos cap with hc | hc
    · exact ⟨none, ⟨h0, _, cap, rfl, hn, hm, (fun h => by cases h), fun _ => rfl, fun h => absurd h (by omega)⟩, fun g h => by cases h⟩
    · exact ⟨some g, ⟨h0, _, cap, rfl, hn, hm, (fun h => by cases h), fun h => absurd h (by omega), fun _ => ⟨g, 0, cur, rfl, rfl, hg, by omega, by rw [List.drop_zero]; exact ht⟩⟩, fun k h => by injection h with h; rw [← h]; exact hb⟩
theorem OwnO.form {w : World} {e : TypeId} {sz : Nat} {v : Value} {n : Nat} {xs : List Value} {gl : Option Nat} (h : OwnO w e sz v n xs gl) : ∃ A cap, v = .slice A n cap ∧ n ≤ cap ∧ (A = none → cap = 0) := by
  obtain ⟨h0, A, cap, h1, h2, h3, h4, h5, h6⟩ := h
  exact ⟨A, cap, h1, h2, h4⟩
theorem OwnO.cell {w : World} {e : TypeId} {sz : Nat} {v : Value} {n : Nat} {xs : List Value} {gl : Option Nat} (h : OwnO w e sz v n xs gl) (i : Nat) (hi : i < xs.length) :
    ∃ g off cap, v = .slice (some ⟨g, off, none⟩) n cap ∧ gl = some g ∧ w.cell? ⟨g, off + i, none⟩ = some xs[i] ∧ ∀ j, w.frozen? ⟨g, j, none⟩ = false := by
  obtain ⟨h0, A, cap, h1, h2, h3, h4, h5, h6⟩ := h
  have hn : 0 < n := by
    rcases Nat.eq_zero_or_pos n with h | h
    · subst h; simp at h0; subst h0; simp at hi
    · exact h
  obtain ⟨g, off, cur, rfl, k2, k3, k4, k5⟩ := h6 (by omega)
  refine ⟨g, off, cap, h1, k2, ?_, fun j => frozen_of_row w g j _ e k3⟩
  rw [cell_of_row w g (off + i) _ e (0, 0) k3]
  have hle : ((cur.toList.drop off).take (n * sz))[i]? = some xs[i] := by rw [k5]; exact List.getElem?_eq_getElem hi
  rw [List.getElem?_take_of_lt (by omega), List.getElem?_drop] at hle
  simpa using hle
theorem run_room_off {P : Program} (w : World) (t ty e : TypeId) (i : TypeInfo) (ht : P.underlying t = some (.slice e)) (hi : P.info? e = some i)
    (g off n cap : Nat) (cur : Array Value) (hg : w.heap[g]? = some (.cells cur e (0, 0))) (a : Addr) (m c : Nat) (news : List Value) (hl : news.length = m * i.size) (hnews : ∀ j u, news[j]? = some u → w.cell? (a.add j) = some u) (h1 : ∀ u ∈ news, u.oneCell' = true)
    (hroom : n + m ≤ cap) (hfit : off + n * i.size + news.length ≤ cur.size) :
    (Builtin.append_ #[t, t] ty #[.slice (some ⟨g, off, none⟩) n cap, .slice (some a) m c]).run P w =
      .ok (.slice (some ⟨g, off, none⟩) (n + m) cap) (w.setRow g (cur.toList.take (off + n * i.size) ++ news ++ cur.toList.drop (off + n * i.size + news.length)).toArray) := by
  have hf := run_firstCells_some (P := P) w i.size m a m c news hl hnews
  have hst := run_storeCells_at P g (off + n * i.size) e news 0 cur w hg (by simpa using hfit) h1
  simp only [Nat.add_zero] at hst
  simp [Builtin.append_, run_underlying ht, sizeOf, typeInfo, hi, Builtin.lenOf, hroom, hf, Addr.add_lit, hst]
theorem OwnO.app {P : Program} {w : World} {e : TypeId} {sz : Nat} {v : Value} {n : Nat} {xs : List Value} {gl : Option Nat} (h : OwnO w e sz v n xs gl) (t ty : TypeId) (i : TypeInfo) (z : Value) (bytes : Nat) (ht : P.underlying t = some (.slice e)) (hi : P.info? e = some i) (hz : i.zero = some z) (hsize : i.size = sz) (hby : i.bytes = bytes) (hzs : z.cells.size = sz) (hsz : 0 < sz)
    (a : Addr) (c : Nat) (news : List Value) (hl : news.length = sz) (hnews : ∀ j u, news[j]? = some u → w.cell? (a.add j) = some u) (h1 : ∀ u ∈ news, u.oneCell' = true) (hn : n ≤ 1000000) (hb : bytes ≤ 1000) :
    ∃ v' w' gl', (Builtin.append_ #[t, t] ty #[v, .slice (some a) 1 c]).run P w = .ok v' w' ∧ OwnO w' e sz v' (n + 1) (xs ++ news) gl' ∧ w.grownBy w' gl ∧ (gl' = gl ∨ ∀ g, gl' = some g → w.heap.size ≤ g) := by
  obtain ⟨h0, A, cap, rfl, h2, h3, h4, h5, h6⟩ := h
  have hlen : (xs ++ news).length = (n + 1) * sz := by rw [List.length_append, h0, hl, Nat.succ_mul]
  have hbb : (n + 1) * bytes ≤ 140737488355328 := Nat.le_trans (Nat.mul_le_mul (show n + 1 ≤ 1000001 by omega) hb) (by decide)
  have hmx : n + 1 ≤ maxLen := by unfold maxLen; omega
  by_cases hr : n + 1 ≤ cap
  · obtain ⟨g, off, cur, rfl, k2, k3, k4, k5⟩ := h6 (by omega)
    have hmul : (n + 1) * sz ≤ cap * sz := Nat.mul_le_mul_right _ hr
    rw [Nat.succ_mul] at hmul
    have hrun := run_room_off (P := P) w t ty e i ht hi g off n cap cur k3 a 1 c news (by rw [hl, hsize]; omega) hnews h1 hr (by rw [hsize, hl]; omega)
    rw [hsize] at hrun
    refine ⟨_, _, gl, hrun, ⟨hlen, _, cap, rfl, hr, h3, (fun h => by cases h), h5, fun _ => ⟨g, off, _, rfl, k2, setRow_heap w g cur _ e _ k3, ?_, ?_⟩⟩, ?_, Or.inl rfl⟩
    · simp only [List.size_toArray, List.length_append, List.length_take, List.length_drop, Array.length_toList]
      omega
    · have hle : off + n * sz ≤ cur.toList.length := by rw [Array.length_toList]; omega
      simp only [List.append_assoc]
      rw [List.drop_append_of_le_length (by rw [List.length_take]; omega), List.drop_take, Nat.add_sub_cancel_left, k5, ← List.append_assoc, ← hlen]
      exact List.take_left
    · rw [k2]
      exact ⟨rfl, rfl, rfl, by simp, fun k _ hk => setRow_other w g k _ (fun e => hk (by rw [e]))⟩
  · have fresh : ∀ v' w', w'.ownsRow w.heap.size e sz v' (n + 1) (xs ++ news) → w.grownBy w' none → ∃ gl', OwnO w' e sz v' (n + 1) (xs ++ news) gl' ∧ w.grownBy w' gl ∧ (gl' = gl ∨ ∀ g, gl' = some g → w.heap.size ≤ g) := fun v' w' ho hg => by
      obtain ⟨gl', k1, k2⟩ := OwnO.of ho
      exact ⟨gl', k1, ⟨hg.os, hg.tape, hg.output, hg.size, fun k hk _ => hg.block k hk (by simp)⟩, Or.inr k2⟩
    cases A with
    | none =>
      have hc0 := h4 rfl
      subst hc0
      obtain rfl : n = 0 := by omega
      obtain rfl : xs = [] := List.eq_nil_of_length_eq_zero (by simpa using h0)
      obtain ⟨v', w', hrun, r1, r2, _⟩ := run_append_own (P := P) w w.heap.size t ty e i z sz bytes ht hi hz hsize hby hzs hsz (.slice none 0 0) 0 [] (World.ownsRow_nil w _ e sz) a 1 c news (by omega) hnews h1 (by omega) (by simpa using hbb) (Nat.le_refl _)
      rw [Nat.zero_add] at r1
      obtain ⟨gl', k1, k2, k3⟩ := fresh v' w' r1 ⟨r2.os, r2.tape, r2.output, r2.size, fun k hk _ => r2.block k hk (by simp [Value.ownBlock])⟩
      exact ⟨v', w', gl', hrun, k1, k2, k3⟩
    | some b =>
      have holds : ∀ j u, xs[j]? = some u → w.cell? (b.add j) = some u := fun j u hj => by
        have hjl := (List.getElem?_eq_some_iff.1 hj).1
        have hn0 : 0 < n := by
          rcases Nat.eq_zero_or_pos n with h | h
          · subst h; simp at h0; subst h0; simp at hjl
          · exact h
        obtain ⟨g, off, cur, e1, k2, k3, k4, k5⟩ := h6 (by omega)
        injection e1 with e1
        subst e1
        rw [Addr.add_lit, cell_of_row w g (off + j) _ e (0, 0) k3]
        have hle : ((cur.toList.drop off).take (n * sz))[j]? = some u := by rw [k5]; exact hj
        rw [List.getElem?_take_of_lt (by omega), List.getElem?_drop] at hle
        simpa using hle
      obtain ⟨v', w', hrun, r1, r2⟩ := run_append_arg_grows (P := P) w t ty e i z sz bytes ht hi hz hsize hby hzs hsz b n cap xs h0 holds a 1 c news (by omega) hnews (by omega) hmx hbb
      obtain ⟨gl', k1, k2, k3⟩ := fresh v' w' r1 r2
      exact ⟨v', w', gl', hrun, k1, k2, k3⟩
end Go.Proofs.YtdbhgkbmbbjpdaaGreatDoor.Chr
