/- Parse leads back from Text. -/
import Derived.Test.YtdfphpoakihkdaaDoorRt
namespace Go.Proofs.YtdfphpoakihkdaaDoor.Pre
open Go.ChangeShapes Go.WideShapes Go.ChangeAt Go.RowKit Go.Sort

def foldR : List UInt8 → St → Option St
  | [], st => some st
  | b :: l, st => match stepR st (b.toNat : Int) with
    | none => none
    | some st' => foldR l st'
theorem foldR_app (a b : List UInt8) (st st' : St) (h : foldR a st = some st') : foldR (a ++ b) st = foldR b st' := by
  induction a generalizing st with
  | nil => simp [foldR] at h; subst h; rfl
  | cons x a ih =>
    simp only [foldR, List.cons_append] at h ⊢
    cases hs : stepR st (x.toNat : Int) with
    | none => rw [hs] at h; cases h
    | some s1 => rw [hs] at h; exact ih s1 h
theorem runs_ascii (l : List UInt8) (h : ∀ b ∈ l, b.toNat < 128) : ∀ (f pos : Nat) (st : St), l.length - pos ≤ f → runs ⟨l.toArray⟩ f pos st = foldR (l.drop pos) st
  | 0, pos, st, hf => by
    rw [List.drop_eq_nil_of_le (by omega)]; rfl
  | f + 1, pos, st, hf => by
    have hsz : (⟨l.toArray⟩ : ByteArray).size = l.length := by simp [ByteArray.size]
    by_cases hp : pos < l.length
    · have hp' : pos < (⟨l.toArray⟩ : ByteArray).size := by rw [hsz]; exact hp
      have hb : (⟨l.toArray⟩ : ByteArray)[pos]'hp' = l[pos] := by simp [ByteArray.getElem_eq_getElem_data]
      have hd := decode_ascii ⟨l.toArray⟩ pos hp' (by rw [hb]; exact h _ (List.getElem_mem hp))
      rw [hb] at hd
      rw [List.drop_eq_getElem_cons hp]
      simp only [foldR]
      cases hs : stepR st (l[pos].toNat : Int) with
      | none => rw [runs_none _ f pos st hp' (by rw [hd]; exact hs)]
      | some s1 =>
        rw [runs_some _ f pos st s1 hp' (by rw [hd]; exact hs), hd]
        exact runs_ascii l h f (pos + 1) s1 (by omega)
    · rw [runs_end _ _ _ _ (by rw [hsz]; exact hp), List.drop_eq_nil_of_le (by omega)]; rfl

theorem getN_putN (st : St) (v : Int) : getN (putN st v) = v := by
  obtain ⟨a, b, c, d, e, n⟩ := st
  match n with
  | 0 | 1 | 2 | 3 => rfl
  | n + 4 => rfl
theorem putN_putN (st : St) (v u : Int) : putN (putN st v) u = putN st u := by
  obtain ⟨a, b, c, d, e, n⟩ := st
  match n with
  | 0 | 1 | 2 | 3 => rfl
  | n + 4 => rfl
theorem dbyte_nat {d : Nat} (h : d < 10) : (dbyte d).toNat = 48 + d := by unfold dbyte; simp; omega
theorem fold_digit (st : St) (d : Nat) (h : d < 10) : foldR [dbyte d] st = some (putN st (dg (getN st) ((48 + d : Nat) : Int))) := by
  simp only [foldR, dbyte_nat h]
  rw [stepR, if_pos (by omega)]
theorem fold_dec (st : St) (h0 : getN st = 0) (u : Nat) (hu : u < 256) : foldR (Lib.decDigits u) st = some (putN st (u : Int)) := by
  by_cases h : u < 10
  · rw [dec_small h, fold_digit st u h, h0]; unfold dg; congr 2; omega
  · rw [dec_big h, foldR_app _ _ st _ (fold_dec st h0 (u / 10) (by omega)), dec_small (show u % 10 < 10 by omega), fold_digit _ _ (by omega), getN_putN, putN_putN]
    unfold dg; congr 2; omega
termination_by u
decreasing_by omega
theorem fold_mark (st : St) (m : UInt8) (h : atN st < 4) (hm : (m.toNat : Int) = markAt (atN st)) (hn : ¬ (48 ≤ (m.toNat : Int) ∧ (m.toNat : Int) ≤ 57)) : foldR [m] st = some (nextN st) := by
  simp only [foldR]
  rw [stepR, if_neg hn, if_pos ⟨h, hm⟩]
theorem dec_ascii (u : Nat) : ∀ b ∈ Lib.decDigits u, b.toNat < 128 := by
  by_cases h : u < 10
  · rw [dec_small h]; intro b hb; simp at hb; subst hb; rw [dbyte_nat h]; omega
  · rw [dec_big h, dec_small (show u % 10 < 10 by omega)]
    intro b hb
    rcases List.mem_append.1 hb with hb | hb
    · exact dec_ascii (u / 10) b hb
    · simp at hb; subst hb; rw [dbyte_nat (by omega)]; omega
termination_by u
decreasing_by omega
theorem text_ascii (a n : Int) : ∀ b ∈ text a n, b.toNat < 128 := by
  intro b hb
  unfold text pre at hb
  simp only [List.mem_append, List.mem_singleton] at hb
  rcases hb with (((((((hb | hb) | hb) | hb) | hb) | hb) | hb) | hb) | hb
  all_goals first | exact dec_ascii _ b hb | (subst hb; decide)
theorem fold_text (x0 x1 x2 x3 x4 : Nat) (h0 : x0 < 256) (h1 : x1 < 256) (h2 : x2 < 256) (h3 : x3 < 256) (h4 : x4 < 256) :
    foldR (Lib.decDigits x0 ++ [46] ++ Lib.decDigits x1 ++ [46] ++ Lib.decDigits x2 ++ [46] ++ Lib.decDigits x3 ++ [47] ++ Lib.decDigits x4) st0 = some ((x0 : Int), (x1 : Int), (x2 : Int), (x3 : Int), (x4 : Int), 4) := by
  simp only [List.append_assoc]
  have a0 : foldR (Lib.decDigits x0) st0 = some ((x0 : Int), 0, 0, 0, 0, 0) := fold_dec st0 rfl x0 h0
  have m0 : foldR [46] ((x0 : Int), 0, 0, 0, 0, 0) = some ((x0 : Int), 0, 0, 0, 0, 1) := fold_mark _ 46 (by show 0 < 4; omega) rfl (by decide)
  have a1 : foldR (Lib.decDigits x1) ((x0 : Int), 0, 0, 0, 0, 1) = some ((x0 : Int), (x1 : Int), 0, 0, 0, 1) := fold_dec _ rfl x1 h1
  have m1 : foldR [46] ((x0 : Int), (x1 : Int), 0, 0, 0, 1) = some ((x0 : Int), (x1 : Int), 0, 0, 0, 2) := fold_mark _ 46 (by show 1 < 4; omega) rfl (by decide)
  have a2 : foldR (Lib.decDigits x2) ((x0 : Int), (x1 : Int), 0, 0, 0, 2) = some ((x0 : Int), (x1 : Int), (x2 : Int), 0, 0, 2) := fold_dec _ rfl x2 h2
  have m2 : foldR [46] ((x0 : Int), (x1 : Int), (x2 : Int), 0, 0, 2) = some ((x0 : Int), (x1 : Int), (x2 : Int), 0, 0, 3) := fold_mark _ 46 (by show 2 < 4; omega) rfl (by decide)
  have a3 : foldR (Lib.decDigits x3) ((x0 : Int), (x1 : Int), (x2 : Int), 0, 0, 3) = some ((x0 : Int), (x1 : Int), (x2 : Int), (x3 : Int), 0, 3) := fold_dec _ rfl x3 h3
  have m3 : foldR [47] ((x0 : Int), (x1 : Int), (x2 : Int), (x3 : Int), 0, 3) = some ((x0 : Int), (x1 : Int), (x2 : Int), (x3 : Int), 0, 4) := fold_mark _ 47 (by show 3 < 4; omega) rfl (by decide)
  have a4 : foldR (Lib.decDigits x4) ((x0 : Int), (x1 : Int), (x2 : Int), (x3 : Int), 0, 4) = some ((x0 : Int), (x1 : Int), (x2 : Int), (x3 : Int), (x4 : Int), 4) := fold_dec _ rfl x4 h4
  rw [foldR_app _ _ _ _ a0, foldR_app _ _ _ _ m0, foldR_app _ _ _ _ a1, foldR_app _ _ _ _ m1, foldR_app _ _ _ _ a2, foldR_app _ _ _ _ m2, foldR_app _ _ _ _ a3, foldR_app _ _ _ _ m3, a4]
theorem reads_text (P N : Nat) (hP : P < 4294967296) (hN : N ≤ 255) : reads ⟨(text P N).toArray⟩ P N := by
  unfold reads
  have hsz : (⟨(text (P : Int) (N : Int)).toArray⟩ : ByteArray).size = (text (P : Int) (N : Int)).length := by simp [ByteArray.size]
  rw [runs_ascii _ (text_ascii _ _) _ 0 st0 (by rw [hsz]; omega), List.drop_zero]
  have := fold_text ((P : Int) / 16777216).toNat ((P : Int) / 65536 % 256).toNat ((P : Int) / 256 % 256).toNat ((P : Int) % 256).toNat (N : Int).toNat (by omega) (by omega) (by omega) (by omega) (by omega)
  have e : text (P : Int) (N : Int) = Lib.decDigits ((P : Int) / 16777216).toNat ++ [46] ++ Lib.decDigits ((P : Int) / 65536 % 256).toNat ++ [46] ++ Lib.decDigits ((P : Int) / 256 % 256).toNat ++ [46] ++ Lib.decDigits ((P : Int) % 256).toNat ++ [47] ++ Lib.decDigits (N : Int).toNat := rfl
  rw [e, this]
  have ea : addrOf (((P : Int) / 16777216).toNat : Nat) (((P : Int) / 65536 % 256).toNat : Nat) (((P : Int) / 256 % 256).toNat : Nat) (((P : Int) % 256).toNat : Nat) = (P : Int) := by unfold addrOf; omega
  have en : (((N : Int).toNat : Nat) : Int) = (N : Int) := by omega
  simp only [outN]
  rw [ea, en]; rfl
theorem text_size (P N : Nat) (hP : P < 4294967296) (hN : N ≤ 255) : (⟨(text P N).toArray⟩ : ByteArray).size ≤ 19 := by
  rw [text_dec]
  simp only [ByteArray.size_append]
  have s0 := dec_size ((P : Int) / 16777216).toNat (by omega)
  have s1 := dec_size ((P : Int) / 65536 % 256).toNat (by omega)
  have s2 := dec_size ((P : Int) / 256 % 256).toNat (by omega)
  have s3 := dec_size ((P : Int) % 256).toNat (by omega)
  have s4 := dec_size (N : Int).toNat (by omega)
  have e1 : (⟨#[46]⟩ : ByteArray).size = 1 := rfl
  have e2 : (⟨#[47]⟩ : ByteArray).size = 1 := rfl
  omega
theorem parse_text (P N : Nat) (hP : P < 4294967296) (hN : N ≤ 255) (hright : right P N = true) (w : World) (hp : Pow w) :
    Calls Tryd.prog 24 #[.string ⟨(text P N).toArray⟩] w fun e w' => e = .returned (.tuple #[.agg #[.int .u32 P, .int .u8 N], .int .i64 0]) ∧ Below w.heap.size w w' :=
  parse_yes _ P N (Nat.le_trans (text_size P N hP hN) (by unfold maxLen; omega)) hP hN (reads_text P N hP hN) hright rfl w hp
end Go.Proofs.YtdfphpoakihkdaaDoor.Pre
