/- For the laws on many frames: where they end; rows of numbers; both side by side. -/
import Derived.Test.YtjhkgdgbmmpegaaFLw
namespace Go.Proofs.Ytjhkgdgbmmpegaa.Frm
open Go.ChangeShapes Go.WideShapes Go.ChangeAt Go.RowKit
open Coin (b8 Rd Row Own sz coin got str CoinSaid)
open Tal (more)

theorem stops_len (a : Nat) (ll : List (List UInt8)) : (stops a ll).length = ll.length := by
  induction ll generalizing a with
  | nil => rfl
  | cons p ll ih => simp [stops, ih]
theorem upto_le (k : Nat) (S : List Nat) : upto k S ≤ S.length := by
  induction S with
  | nil => exact Nat.le_refl _
  | cons x S ih =>
    unfold upto
    split
    · simpa using ih
    · exact Nat.zero_le _
theorem upto_lt (k : Nat) (S : List Nat) : ∀ j (_ : j < upto k S) (h2 : j < S.length), S[j] ≤ k := by
  induction S with
  | nil => intro j _ h2; simp at h2
  | cons x S ih =>
    intro j h h2
    unfold upto at h
    split at h
    · rcases j with _ | j
      · assumption
      · exact ih j (by omega) (by simpa using h2)
    · omega
theorem upto_end (k : Nat) (S : List Nat) (h : upto k S < S.length) : k < S[upto k S] := by
  induction S with
  | nil => simp at h
  | cons x S ih =>
    by_cases hx : x ≤ k
    · have e : upto k (x :: S) = upto k S + 1 := by rw [upto, if_pos hx]
      simp only [e, List.getElem_cons_succ]
      exact ih (by rw [e] at h; simpa using h)
    · have e : upto k (x :: S) = 0 := by rw [upto, if_neg hx]
      simp only [e, List.getElem_cons_zero]
      omega
theorem last_get (k : Nat) (S : List Nat) : ∀ a, last k a S = (a :: S).getD (upto k S) 0 := by
  induction S with
  | nil => intro a; rfl
  | cons x S ih =>
    intro a
    unfold last upto
    split
    · rw [ih x]; rfl
    · rfl
theorem last_step (S : List Nat) (j : Nat) (h : j < S.length) : (0 :: S).getD (j + 1) 0 = S[j] := by simp [List.getD, h]
theorem packs_take (ll : List (List UInt8)) (i : Nat) (h : i < ll.length) : packs 0 (ll.take (i + 1)) = packs 0 (ll.take i) ++ pack (UInt8.ofNat i) ll[i] := by
  rw [List.take_succ_eq_append_getElem h, packs_snoc, List.length_take, Nat.min_eq_left (by omega), Nat.zero_add]
theorem stops_take (ll : List (List UInt8)) (i : Nat) (h : i < ll.length) : stops 0 (ll.take (i + 1)) = stops 0 (ll.take i) ++ [(packs 0 (ll.take (i + 1))).length] := by
  rw [List.take_succ_eq_append_getElem h, stops_snoc _ _ 0 0, Nat.zero_add]
theorem packs_small (ll : List (List UInt8)) (h : ∀ r ∈ ll, r.length ≤ 200) : ∀ i, (packs i ll).length ≤ 300 * ll.length := by
  induction ll with
  | nil => intro i; simp [packs]
  | cons p ll ih =>
    intro i
    have h1 := ih (fun r hr => h r (by simp [hr])) (i + 1)
    have h2 := h p (by simp)
    have h3 := Coin.sz_le p.length
    simp only [packs, List.length_append, length_pack, List.length_cons]
    omega
theorem packs_take_small (ll : List (List UInt8)) (h : ∀ r ∈ ll, r.length ≤ 200) (hn : ll.length ≤ 12) (i : Nat) : (packs 0 (ll.take i)).length ≤ 3600 := by
  have h1 := packs_small (ll.take i) (fun r hr => h r (List.mem_of_mem_take hr)) 0
  rw [List.length_take] at h1
  omega
theorem few_iff (ll : List (List UInt8)) : few ll = true ↔ (∀ r ∈ ll, r.length ≤ 200) ∧ ll.length ≤ 12 := by
  unfold few
  rw [Bool.and_eq_true, decide_eq_true_eq, decide_eq_true_eq]

/-- A row of numbers. -/
def Ints (w : World) (B : Nat) (v : Value) (l : List Nat) : Prop := w.ownsRow B 3 1 v l.length (l.map fun x : Nat => .int .i64 (x : Int))
theorem Ints.nil (w : World) (B : Nat) : Ints w B (.slice none 0 0) [] := World.ownsRow_nil w B _ 1
theorem Ints.kept {w w' : World} {B : Nat} {v : Value} {l : List Nat} (h : Ints w B v l) (hb : Below w.heap.size w w') : Ints w' B v l :=
  World.ownsRow.kept (row := none) h ⟨hb.os, hb.tape, hb.output, hb.size, fun k hk _ => hb.block k hk⟩ (by cases v.ownBlock <;> simp)
theorem Ints.form {w : World} {B : Nat} {v : Value} {l : List Nat} (h : Ints w B v l) : ∃ A c, v = .slice A l.length c ∧ l.length ≤ c := by
  rcases h.2 with ⟨rfl, h0⟩ | ⟨g, cap, cur, rfl, _, _, h1, _, _⟩
  · exact ⟨none, 0, by rw [h0], by omega⟩
  · exact ⟨_, cap, rfl, h1⟩
theorem Ints.at {w : World} {B n : Nat} {A : Option Addr} {c : Nat} {l : List Nat} (h : Ints w B (.slice A n c) l) (j : Nat) (hj : j < l.length) : ∃ q, A = some ⟨q, 0, none⟩ ∧ w.cell? ⟨q, j, none⟩ = some (.int .i64 (l[j] : Int)) := by
  rcases h.2 with ⟨_, h0⟩ | ⟨g, cap, cur, e, _, hg, _, _, _, ht⟩
  · omega
  · injection e with e1 e2 e3
    subst e1
    refine ⟨g, rfl, ?_⟩
    rw [cell_of_row w g _ _ 3 (0, 0) hg]
    have := congrArg (fun l : List Value => l[j]?) ht
    rw [List.getElem?_take_of_lt (by omega)] at this
    rw [← Array.getElem?_toList, this]
    simp [hj]
/-- Two rows of unlike things are two blocks. -/
theorem apart {w : World} {B B' : Nat} {e e' : TypeId} {s s' n n' : Nat} {v v' : Value} {us us' : List Value} (h : w.ownsRow B e s v n us) (h' : w.ownsRow B' e' s' v' n' us') (he : e ≠ e') : v.ownBlock = none ∨ v.ownBlock ≠ v'.ownBlock := by
  rcases h.2 with ⟨rfl, _⟩ | ⟨g, cap, cur, rfl, _, hg, _⟩
  · exact .inl rfl
  · refine .inr ?_
    rcases h'.2 with ⟨rfl, _⟩ | ⟨g', cap', cur', rfl, _, hg', _⟩
    · simp [Value.ownBlock]
    · simp only [Value.ownBlock, ne_eq, Option.some.injEq]
      intro hh
      subst hh
      rw [hg] at hg'
      injection hg' with hg'
      injection hg' with _ h2
      exact he h2
theorem info3 : (Try.prog.info? 3).map (fun i => (i.zero, i.size, i.bytes)) = some (some (.int .i64 0), 1, 8) := by kernel_rfl
/-- One number more. -/
theorem add_int {w : World} {ops : Array Oper} {rest : List Oper} {o : Oper} {a : Act} {Q : Exit → Act → World → Prop} (hgd : o.guard = none) (s x : Operand)
    (ho : o.op = .call { callee := .builtin .append, args := #[s, x], argTypes := #[41, 41] }) (B : Nat) (v : Value) (l : List Nat) (k g : Nat)
    (hs : a.eval s = v) (hx : a.eval x = .slice (some ⟨g, 0, none⟩) 1 1) (hown : Ints w B v l) (hc : w.cell? ⟨g, 0, none⟩ = some (.int .i64 (k : Int))) (hlen : l.length ≤ 1000000) (hB : B ≤ w.heap.size)
    (h : ∀ v' w', Ints w' B v' (l ++ [k]) → w.grownBy w' v.ownBlock → wpList Try.prog ops Q rest (a.put o.dst v') w') : wpList Try.prog ops Q (o :: rest) a w := by
  obtain ⟨i0, hi, hz0, hz1, hz2⟩ := info_parts info3
  refine wpList_append_own w hgd s x 41 ho B 3 i0 (.int .i64 0) 1 8 Try.underlying41 hi hz0 hz1 hz2 rfl (by decide) v l.length (l.map fun x : Nat => .int .i64 (x : Int)) hs hown ⟨g, 0, none⟩ 1 1 [.int .i64 (k : Int)] hx rfl ?_ (by simp [Value.oneCell']) (by unfold maxLen; omega) (by omega) hB ?_
  · intro j u hj
    rcases j with _ | j
    · simp at hj
      rw [← hj]; exact hc
    · simp at hj
  · intro v' w' h1 h2 _
    refine h v' w' ?_ h2
    unfold Ints
    simpa using h1
end Go.Proofs.Ytjhkgdgbmmpegaa.Frm
