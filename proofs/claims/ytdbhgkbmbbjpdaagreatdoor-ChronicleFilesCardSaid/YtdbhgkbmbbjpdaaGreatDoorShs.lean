/- Which names may be. The files of a shelf that have no name any more. A whole shelf in memory, its blocks told apart by tags. What a shelf's acts do, as pure data. What a shelf's acts do in memory: act, actOn, Sync, Append, Cut, Read. -/
import Derived.Test.YtdbhgkbmbbjpdaaGreatDoorShe
import Derived.Laws.RangeAny
import Derived.Laws.RangeString
namespace Go.Proofs.YtdbhgkbmbbjpdaaGreatDoor.Shf
open Go.ChangeShapes Go.WideShapes Go.ChangeAt Go.RowKit
theorem ret_bool {a b : Bool} (h : a = b) : Ending.returned (.bool a) = .returned (.bool b) := by rw [h]
def okN (n : Nat) : Bool := (decide (97 ≤ n) && decide (n ≤ 122)) || (decide (48 ≤ n) && decide (n ≤ 57)) || decide (n = 46)
def nameOk (l : List UInt8) : Bool := l.all (fun b => okN b.toNat) && decide (0 < l.length) && decide (l.length ≤ 32)
theorem fits_any (w : World) (n : Nat) : Calls Tryz.prog 94 #[.int .i32 (n : Int)] w fun e w' => e = .returned (.bool (okN n)) ∧ w = w' := by
  by_cases h1 : 97 ≤ n
  · by_cases h2 : n ≤ 122
    · rw [show okN n = true by simp [okN, h1, h2]]
      have h1' : (97 : Int) ≤ (n : Int) := by omega
      have h2' : (n : Int) ≤ 122 := by omega
      go_enter Tryz.func94, Tryz.ntmps94
      go_wp2
      go_ret
      exact ⟨rfl, rfl⟩
    · rw [show okN n = false by simp [okN]; omega]
      have h1' : (97 : Int) ≤ (n : Int) := by omega
      have h2' : ¬ (n : Int) ≤ 122 := by omega
      have h3' : (48 : Int) ≤ (n : Int) := by omega
      have h4' : ¬ (n : Int) ≤ 57 := by omega
      have h5' : ((n : Int) == 46) = false := by simp; omega
      have h6' : ¬ (n : Int) = 46 := by omega
      go_enter Tryz.func94, Tryz.ntmps94
      go_wp2
      go_ret
      exact ⟨rfl, rfl⟩
  · have h1' : ¬ (97 : Int) ≤ (n : Int) := by omega
    by_cases h3 : 48 ≤ n
    · have h3' : (48 : Int) ≤ (n : Int) := by omega
      by_cases h4 : n ≤ 57
      · rw [show okN n = true by simp [okN, h3, h4]]
        have h4' : (n : Int) ≤ 57 := by omega
        go_enter Tryz.func94, Tryz.ntmps94
        go_wp2
        go_ret
        exact ⟨rfl, rfl⟩
      · rw [show okN n = false by simp [okN]; omega]
        have h4' : ¬ (n : Int) ≤ 57 := by omega
        have h5' : ((n : Int) == 46) = false := by simp; omega
        have h6' : ¬ (n : Int) = 46 := by omega
        go_enter Tryz.func94, Tryz.ntmps94
        go_wp2
        go_ret
        exact ⟨rfl, rfl⟩
    · have h3' : ¬ (48 : Int) ≤ (n : Int) := by omega
      by_cases h6 : n = 46
      · subst h6
        rw [show okN 46 = true by decide]
        go_enter Tryz.func94, Tryz.ntmps94
        go_wp2
        go_ret
        exact ⟨rfl, rfl⟩
      · rw [show okN n = false by simp [okN]; omega]
        have h5' : ((n : Int) == 46) = false := by simp; omega
        have h6' : ¬ (n : Int) = 46 := by omega
        go_enter Tryz.func94, Tryz.ntmps94
        go_wp2
        go_ret
        exact ⟨rfl, rfl⟩
set_option maxRecDepth 4000 in
theorem name_any (w : World) (l : List UInt8) (hl : l.length ≤ 1000000) : Calls Tryz.prog 64 #[.string (str l)] w fun e w' => e = .returned (.bool (nameOk l)) ∧ Below w.heap.size w w' := by
  have hB : ∀ p, Below w.heap.size w (w.iter (str l) p) := fun p => (Below.refl _ w).alloc (Nat.le_refl _) _
  have hsz : (str l).size = l.length := rfl
  obtain ⟨s, hs⟩ : ∃ s, s = str l := ⟨_, rfl⟩
  rw [← hs] at hB hsz ⊢
  have hget : ∀ i (h : i < s.size) (h' : i < l.length), (s[i]'h).toNat = (l[i]'h').toNat := by intro i h h'; subst hs; rfl
  have HG := Lib.hid hget
  have HB := Lib.hid hB
  clear hget hB hs
  go_enter Tryz.func64, Tryz.ntmps64
  go_wp2
  go_loopw [4] (fun _ wr => ∃ pos : Nat, wr = w.iter s pos ∧ pos ≤ s.size ∧ Hid (∀ j (h : j < l.length), j < pos → okN (l[j]'h).toNat = true)) (fun _ wr => s.size - wr.iterPos w.heap.size)
  case atStart => exact ⟨0, rfl, by omega, fun j _ h => by omega⟩
  case round =>
    obtain ⟨pos, rfl, hp, HO⟩ := hrel
    by_cases hlt : pos < s.size
    · have hget := HG.out pos hlt (by omega)
      by_cases ha : (s[pos]'hlt).toNat < 128
      · have hnx := fun ty => run_next_ascii (P := Tryz.prog) w s pos ty hlt ha
        have c51 := fun W => fits_any W (s[pos]'hlt).toNat
        cases ho : okN (s[pos]'hlt).toNat with
        | true =>
          rw [ho] at c51
          have HO' : Hid (∀ j (h : j < l.length), j < pos + 1 → okN (l[j]'h).toNat = true) := fun j h hj => by
            rcases Nat.lt_or_ge j pos with h1 | h1
            · exact HO.out j h h1
            · obtain rfl : j = pos := by omega
              rw [← hget]; exact ho
          clear ho hget
          go_wp2_with (first | (go_at_call 94; refine (c51 _).mono ?_; rintro e w' ⟨rfl, rfl⟩))
          go_roundw
          case rel => exact ⟨pos + 1, rfl, by omega, HO'⟩
          case measure => rw [World.iterPos_iter, World.iterPos_iter]; omega
        | false =>
          rw [ho] at c51
          have hf : nameOk l = false := by
            rw [hget] at ho
            simp only [nameOk, Bool.and_eq_false_iff]
            left; left
            rw [List.all_eq_false]
            exact ⟨l[pos]'(by omega), List.getElem_mem _, by rw [ho]; decide⟩
          have HF := Lib.hid hf
          clear ho hget hf
          go_wp2_with (first | (go_at_call 94; refine (c51 _).mono ?_; rintro e w' ⟨rfl, rfl⟩))
          go_ret
          exact ⟨ret_bool HF.out.symm, HB.out _⟩
      · obtain ⟨hh, _⟩ := decode_high s pos hlt (by omega)
        have hnx := fun ty => run_next_any (P := Tryz.prog) w s pos ty hlt
        have c51 := fun W => fits_any W (Utf8.decode s pos).1
        have ho : okN (Utf8.decode s pos).1 = false := by simp [okN]; omega
        rw [ho] at c51
        have hf : nameOk l = false := by
          have h1 : okN (l[pos]'(by omega)).toNat = false := by rw [← hget]; simp [okN]; omega
          simp only [nameOk, Bool.and_eq_false_iff]
          left; left
          rw [List.all_eq_false]
          exact ⟨l[pos]'(by omega), List.getElem_mem _, by rw [h1]; decide⟩
        have HF := Lib.hid hf
        clear hf
        generalize Utf8.decode s pos = dd at *
        obtain ⟨dr, dw⟩ := dd
        clear ho hget hh
        simp only at hnx c51
        go_wp2_with (first | (go_at_call 94; refine (c51 _).mono ?_; rintro e w' ⟨rfl, rfl⟩))
        go_ret
        exact ⟨ret_bool HF.out.symm, HB.out _⟩
    · have hnx := fun ty => run_next_end (P := Tryz.prog) w s pos ty hlt
      have hall : l.all (fun b => okN b.toNat) = true := by
        rw [List.all_eq_true]
        intro b hb
        obtain ⟨j, hj, rfl⟩ := List.mem_iff_getElem.1 hb
        exact HO.out j hj (by omega)
      have hn : nameOk l = (decide (0 < l.length) && decide (l.length ≤ 32)) := by simp [nameOk, hall]
      rw [← hsz] at hn
      have HF := Lib.hid hn
      have hss : s.size ≤ 1000000 := by omega
      clear hall hn hsz hp hlt HO
      by_cases h1 : 0 < s.size
      · by_cases h2 : s.size ≤ 32
        · have h1' : (0 : Int) < (s.size : Int) := by omega
          have h2' : (s.size : Int) ≤ 32 := by omega
          have HE := Lib.hid (show (decide (0 < s.size) && decide (s.size ≤ 32)) = true by simp [h1, h2])
          go_wp2
          go_ret
          exact ⟨ret_bool (HF.out.trans HE.out).symm, HB.out _⟩
        · have h1' : (0 : Int) < (s.size : Int) := by omega
          have h2' : ¬ (s.size : Int) ≤ 32 := by omega
          have HE := Lib.hid (show (decide (0 < s.size) && decide (s.size ≤ 32)) = false by simp; omega)
          go_wp2
          go_ret
          exact ⟨ret_bool (HF.out.trans HE.out).symm, HB.out _⟩
      · have h1' : ¬ (0 : Int) < (s.size : Int) := by omega
        have HE := Lib.hid (show (decide (0 < s.size) && decide (s.size ≤ 32)) = false by simp; omega)
        go_wp2
        go_ret
        exact ⟨ret_bool (HF.out.trans HE.out).symm, HB.out _⟩
end Go.Proofs.YtdbhgkbmbbjpdaaGreatDoor.Shf
namespace Go.Proofs.YtdbhgkbmbbjpdaaGreatDoor.Shf
def files (l : List (S × Nat)) : List Nat := l.map (·.2)
def sumf (fl : Nat → S × Nat) (bs : List Nat) : Nat := (bs.map fun b => (fl b).1.length).sum
theorem tot_files (fl : Nat → S × Nat) (l : List (S × Nat)) : tot fl l = sumf fl (files l) := by simp [tot, sumf, files, List.map_map, Function.comp_def]
theorem sumf_app (fl : Nat → S × Nat) (a b : List Nat) : sumf fl (a ++ b) = sumf fl a + sumf fl b := by simp [sumf]
theorem sumf_cons (fl : Nat → S × Nat) (a : Nat) (b : List Nat) : sumf fl (a :: b) = (fl a).1.length + sumf fl b := by simp [sumf]
theorem sumf_upd {fl : Nat → S × Nat} {l : List Nat} {b : Nat} {x : S × Nat} (h : b ∉ l) : sumf (fun c => if c = b then x else fl c) l = sumf fl l := by
  unfold sumf
  congr 1
  apply List.map_congr_left
  intro c hc
  have : c ≠ b := fun e => h (by rw [← e]; exact hc)
  simp [this]
theorem sumf_erase (fl : Nat → S × Nat) {l : List Nat} {b : Nat} (h : b ∈ l) : sumf fl l = (fl b).1.length + sumf fl (l.erase b) := by
  induction l with
  | nil => simp at h
  | cons a l ih =>
    by_cases e : a = b
    · subst e; rw [List.erase_cons_head, sumf_cons]
    · have hm : b ∈ l := (List.mem_cons.1 h).elim (fun h => absurd h.symm e) id
      rw [List.erase_cons_tail (by simpa using e), sumf_cons, sumf_cons, ih hm]
      omega
theorem sumf_le (fl : Nat → S × Nat) : ∀ {a b : List Nat}, a.Nodup → (∀ x ∈ a, x ∈ b) → sumf fl a ≤ sumf fl b
  | [], _, _, _ => by simp [sumf]
  | x :: a, b, hn, h => by
    simp only [List.nodup_cons] at hn
    rw [sumf_cons, sumf_erase fl (h x (List.mem_cons_self ..))]
    have := sumf_le fl (b := b.erase x) hn.2 (fun y hy => by
      have hyx : y ≠ x := fun e => hn.1 (by rw [← e]; exact hy)
      exact (List.mem_erase_of_ne hyx).2 (h y (List.mem_cons_of_mem _ hy)))
    omega
theorem mem_files {l : List (S × Nat)} {b : Nat} : b ∈ files l ↔ ∃ s, (s, b) ∈ l := by
  unfold files
  rw [List.mem_map]
  constructor
  · rintro ⟨⟨s, c⟩, h, rfl⟩; exact ⟨s, h⟩
  · rintro ⟨s, h⟩; exact ⟨(s, b), h, rfl⟩
structure LostIs (m : M) (lost : List Nat) : Prop where
  nd : lost.Nodup
  out : ∀ b ∈ lost, b ∉ files m.now
  all : ∀ k, k ≤ m.moves.length → ∀ b ∈ files (ages m.safe (m.moves.take k)), b ∈ files m.now ∨ b ∈ lost
  some : ∀ b ∈ lost, ∃ k, k ≤ m.moves.length ∧ b ∈ files (ages m.safe (m.moves.take k))
  sum : m.gone = sumf m.fl lost
theorem LostIs.mv {m : M} {v : Mv} {fl : Nat → S × Nat} {nd gn : Nat} {lost lost' : List Nat} (h : LostIs m lost) (hnow : m.now = ages m.safe m.moves) (h1 : lost'.Nodup) (h2 : ∀ b ∈ lost', b ∉ files (v.on m.now)) (h3 : ∀ b ∈ files m.now, b ∈ files (v.on m.now) ∨ b ∈ lost') (h4 : ∀ b ∈ lost, b ∈ lost')
    (h5 : ∀ b ∈ lost', b ∈ lost ∨ b ∈ files m.now) (h6 : gn = sumf fl lost') : LostIs {m with now := v.on m.now, moves := m.moves ++ [v], fl := fl, named := nd, gone := gn} lost' := by
  have e : ages m.safe (m.moves ++ [v]) = v.on m.now := by rw [hnow]; simp [ages]
  refine ⟨h1, h2, ?_, ?_, h6⟩
  · intro k hk b hb
    show b ∈ files (v.on m.now) ∨ _
    simp only [List.length_append, List.length_cons, List.length_nil] at hk
    rcases Nat.lt_or_ge m.moves.length k with h' | h'
    · have hb : b ∈ files (ages m.safe ((m.moves ++ [v]).take k)) := hb
      rw [List.take_of_length_le (by simp; omega), e] at hb
      exact Or.inl hb
    · have hb : b ∈ files (ages m.safe ((m.moves ++ [v]).take k)) := hb
      rw [List.take_append_of_le_length h'] at hb
      rcases h.all k h' b hb with h' | h'
      · exact h3 b h'
      · exact Or.inr (h4 b h')
  · intro b hb
    rcases h5 b hb with h' | h'
    · obtain ⟨k, hk, hb⟩ := h.some b h'
      refine ⟨k, by simp; omega, ?_⟩
      show b ∈ files (ages m.safe ((m.moves ++ [v]).take k))
      rw [List.take_append_of_le_length hk]; exact hb
    · refine ⟨m.moves.length, by simp, ?_⟩
      show b ∈ files (ages m.safe ((m.moves ++ [v]).take m.moves.length))
      rw [List.take_append_of_le_length (Nat.le_refl _), List.take_length, ← hnow]; exact h'
end Go.Proofs.YtdbhgkbmbbjpdaaGreatDoor.Shf
namespace Go.Proofs.YtdbhgkbmbbjpdaaGreatDoor.Shf
open Go.ChangeShapes Go.WideShapes Go.ChangeAt Go.RowKit
inductive Tag
  | none | shelf | names | safe | moves | file
  | row (b : Nat)
structure RepV (w : World) (T : Nat → Tag) (q : Nat) (m : M) (nv sv mv : Value) (nn ns : Nat) : Prop where
  sh : ShAt w q m nv sv mv
  tq : T q = .shelf
  nm : NMv w nv nn m.now
  tn : ∀ b, mapBlock nv = some b → T b = .names
  sf : NMv w sv ns m.safe
  ts : ∀ b, mapBlock sv = some b → T b = .safe
  mo : MvAt w mv m.moves
  tm : ∀ b, mv.ownBlock = some b → T b = .moves
  fl : ∀ b, T b = .file → ∃ v, FlAt w b v (m.fl b).2 ∧ Own w v (m.fl b).1 ∧ (∀ g, v.ownBlock = some g → T g = .row b) ∧ (m.fl b).2 ≤ (m.fl b).1.length
  old : ∀ b, T b ≠ .none → b < w.heap.size
  lnow : ∀ p ∈ m.now, T p.2 = .file
  lsafe : ∀ p ∈ m.safe, T p.2 = .file
  lmov : ∀ v ∈ m.moves, (∀ b, v.f = some b → T b = .file) ∧ v.fr.length ≤ 1000 ∧ v.to.length ≤ 1000
  bnn : nn ≤ m.done
  bns : ns + m.moves.length ≤ m.done
structure Fine (m : M) : Prop where
  ahead : m.armed = true → 0 ≤ m.ahead ∧ m.ahead < 9223372036854775808
  named : m.named = tot m.fl m.now
  good : ∀ k, k ≤ m.moves.length → Good (ages m.safe (m.moves.take k))
  now : m.now = ages m.safe m.moves
  room : m.room ≤ 1000000000
  bytes : m.named + m.gone ≤ 1000000000
  lost : ∃ lost, LostIs m lost
def Rep (w : World) (T : Nat → Tag) (q : Nat) (m : M) : Prop := (∃ nv sv mv nn ns, RepV w T q m nv sv mv nn ns) ∧ Fine m
structure Ext (w : World) (T : Nat → Tag) (w' : World) (T' : Nat → Tag) : Prop where
  os : w'.os = w.os
  tape : w'.tape = w.tape
  output : w'.output = w.output
  size : w.heap.size ≤ w'.heap.size
  tags : ∀ b, b < w.heap.size → T' b = T b
  block : ∀ b, b < w.heap.size → T b = .none → w'.heap[b]? = w.heap[b]?
theorem Ext.refl (w : World) (T : Nat → Tag) : Ext w T w T := ⟨rfl, rfl, rfl, Nat.le_refl _, fun _ _ => rfl, fun _ _ _ => rfl⟩
theorem Ext.trans {a b c : World} {T U V : Nat → Tag} (h : Ext a T b U) (k : Ext b U c V) : Ext a T c V :=
  ⟨k.os.trans h.os, k.tape.trans h.tape, k.output.trans h.output, Nat.le_trans h.size k.size, fun i hi => (k.tags i (Nat.lt_of_lt_of_le hi h.size)).trans (h.tags i hi), fun i hi hn => (k.block i (Nat.lt_of_lt_of_le hi h.size) ((h.tags i hi).trans hn)).trans (h.block i hi hn)⟩
theorem Chg.ext {w w' : World} {R : Nat → Prop} {T T' : Nat → Tag} (h : Chg w w' R) (hR : ∀ k, k < w.heap.size → R k → T k ≠ .none) (hT : ∀ b, b < w.heap.size → T' b = T b) : Ext w T w' T' :=
  ⟨h.os, h.tape, h.output, h.size, hT, fun b hb hn => h.block b hb (fun hr => hR b hb hr hn)⟩
theorem Ext.below {w w' : World} {T T' : Nat → Tag} {B : Nat} (h : Ext w T w' T') (hB : B ≤ w.heap.size) (hT : ∀ k, T k ≠ .none → B ≤ k) : Below B w w' :=
  ⟨h.os, h.tape, h.output, h.size, fun k hk => h.block k (Nat.lt_of_lt_of_le hk hB) (by
    cases e : T k with
    | none => rfl
    | _ => exact absurd (hT k (by rw [e]; intro h; cases h)) (by omega))⟩
theorem Fine.act {m : M} (h : Fine m) : Fine m.act := by
  unfold M.act
  split
  · exact h
  · split
    · exact ⟨h.ahead, h.named, h.good, h.now, h.room, h.bytes, h.lost.imp fun _ k => ⟨k.nd, k.out, k.all, k.some, k.sum⟩⟩
    · rename_i h1
      split
      · rename_i h2
        refine ⟨fun _ => ?_, h.named, h.good, h.now, h.room, h.bytes, h.lost.imp fun _ k => ⟨k.nd, k.out, k.all, k.some, k.sum⟩⟩
        have := h.ahead h2
        have h3 : m.ahead ≠ 0 := fun e => h1 ⟨h2, e⟩
        show 0 ≤ m.ahead - 1 ∧ m.ahead - 1 < _
        omega
      · exact ⟨h.ahead, h.named, h.good, h.now, h.room, h.bytes, h.lost.imp fun _ k => ⟨k.nd, k.out, k.all, k.some, k.sum⟩⟩
theorem act_now (m : M) : m.act.now = m.now ∧ m.act.safe = m.safe ∧ m.act.moves = m.moves ∧ m.act.fl = m.fl ∧ m.act.named = m.named ∧ m.act.gone = m.gone ∧ m.act.room = m.room := by
  unfold M.act; split
  · simp
  · split
    · simp
    · split <;> simp
theorem act_done (m : M) : m.done ≤ m.act.done ∧ m.act.done ≤ m.done + 1 ∧ (m.actE = 0 → m.act.done = m.done + 1) := by
  unfold M.act M.actE; split
  · rename_i h; simp [h]
  · rename_i h
    split
    · rename_i h1; simp [h1]
    · split <;> simp
theorem actE_cases (m : M) : m.actE = 0 ∨ m.actE = 7 := by unfold M.actE; split <;> simp
theorem RepV.sh_step {w w' : World} {T : Nat → Tag} {q : Nat} {m m' : M} {nv sv mv : Value} {nn ns : Nat} (R : RepV w T q m nv sv mv nn ns) (hc : Chg w w' (fun k => k = q)) (hS : ShAt w' q m' nv sv mv)
    (e : m'.now = m.now ∧ m'.safe = m.safe ∧ m'.moves = m.moves ∧ m'.fl = m.fl) (hd : m.done ≤ m'.done) : RepV w' T q m' nv sv mv nn ns := by
  obtain ⟨e1, e2, e3, e4⟩ := e
  have ne : ∀ {b}, T b ≠ .shelf → ¬ b = q := fun h e => h (by rw [e]; exact R.tq)
  refine ⟨hS, R.tq, ?_, R.tn, ?_, R.ts, ?_, R.tm, ?_, fun b hb => Nat.lt_of_lt_of_le (R.old b hb) hc.size, ?_, ?_, ?_, Nat.le_trans R.bnn hd, ?_⟩
  · rw [e1]; exact R.nm.at hc (fun b hb => ne (by rw [R.tn b hb]; intro h; cases h))
  · rw [e2]; exact R.sf.at hc (fun b hb => ne (by rw [R.ts b hb]; intro h; cases h))
  · rw [e3]; exact R.mo.at hc (fun b hb => ne (by rw [R.tm b hb]; intro h; cases h))
  · intro b hb
    obtain ⟨v, h1, h2, h3, h4⟩ := R.fl b hb
    rw [e4]
    exact ⟨v, h1.at hc (ne (by rw [hb]; intro h; cases h)), h2.at hc (fun g hg => ne (by rw [h3 g hg]; intro h; cases h)), h3, h4⟩
  · rw [e1]; exact R.lnow
  · rw [e2]; exact R.lsafe
  · rw [e3]; exact R.lmov
  · rw [e3]; exact Nat.le_trans R.bns hd
theorem RepV.far {w w' : World} {T : Nat → Tag} {q : Nat} {m : M} {nv sv mv : Value} {nn ns : Nat} (R : RepV w T q m nv sv mv nn ns) {P : Nat → Prop} (hc : Chg w w' P) (hP : ∀ b, T b ≠ .none → ¬ P b) : RepV w' T q m nv sv mv nn ns := by
  have ne : ∀ {b}, T b ≠ .none → ¬ P b := fun h => hP _ h
  refine ⟨R.sh.at hc (ne (by rw [R.tq]; intro h; cases h)), R.tq, R.nm.at hc (fun b hb => ne (by rw [R.tn b hb]; intro h; cases h)), R.tn, R.sf.at hc (fun b hb => ne (by rw [R.ts b hb]; intro h; cases h)), R.ts, R.mo.at hc (fun b hb => ne (by rw [R.tm b hb]; intro h; cases h)), R.tm, ?_,
    fun b hb => Nat.lt_of_lt_of_le (R.old b hb) hc.size, R.lnow, R.lsafe, R.lmov, R.bnn, R.bns⟩
  intro b hb
  obtain ⟨v, h1, h2, h3, h4⟩ := R.fl b hb
  exact ⟨v, h1.at hc (ne (by rw [hb]; intro h; cases h)), h2.at hc (fun g hg => ne (by rw [h3 g hg]; intro h; cases h)), h3, h4⟩
theorem Rep.far {w w' : World} {T : Nat → Tag} {q : Nat} {m : M} (R : Rep w T q m) {P : Nat → Prop} (hc : Chg w w' P) (hP : ∀ b, T b ≠ .none → ¬ P b) : Rep w' T q m := by
  obtain ⟨⟨nv, sv, mv, nn, ns, R⟩, F⟩ := R
  exact ⟨⟨nv, sv, mv, nn, ns, R.far hc hP⟩, F⟩
theorem RepV.file_step {w : World} {T : Nat → Tag} {q : Nat} {m : M} {nv sv mv : Value} {nn ns : Nat} (R : RepV w T q m nv sv mv nn ns) :
    RepV (w.alloc (.cells #[.slice none 0 0, .int .i64 0] 88)) (fun b => if b = w.heap.size then .file else T b) q {m with fl := fun c => if c = w.heap.size then ([], 0) else m.fl c} nv sv mv nn ns := by
  have hc := chg_alloc w (.cells #[.slice none 0 0, .int .i64 0] 88) (fun _ => False)
  have lt : ∀ {b t}, T b = t → t ≠ .none → b ≠ w.heap.size := fun {b t} h ht e => by
    have := R.old b (by rw [h]; exact ht); omega
  have keep : ∀ {b t}, T b = t → t ≠ .none → (if b = w.heap.size then Tag.file else T b) = t := fun {b t} h ht => by rw [if_neg (lt h ht), h]
  refine ⟨R.sh.at hc (fun h => h), keep R.tq (by intro h; cases h), R.nm.at hc (fun _ _ h => h), fun b hb => keep (R.tn b hb) (by intro h; cases h), R.sf.at hc (fun _ _ h => h), fun b hb => keep (R.ts b hb) (by intro h; cases h), R.mo.at hc (fun _ _ h => h), fun b hb => keep (R.tm b hb) (by intro h; cases h), ?_, ?_,
    fun p hp => keep (R.lnow p hp) (by intro h; cases h), fun p hp => keep (R.lsafe p hp) (by intro h; cases h), fun v hv => ⟨fun b hb => keep ((R.lmov v hv).1 b hb) (by intro h; cases h), (R.lmov v hv).2⟩, R.bnn, R.bns⟩
  · intro b hb
    by_cases e : b = w.heap.size
    · subst e
      refine ⟨.slice none 0 0, ?_, ?_, ?_, ?_⟩
      · simp only [if_true]; exact alloc1 w _
      · simp only [if_true]; exact Or.inl ⟨rfl, rfl⟩
      · intro g hg; cases hg
      · simp
    · simp only [if_neg e] at hb ⊢
      obtain ⟨v, h1, h2, h3, h4⟩ := R.fl b hb
      exact ⟨v, h1.at hc (fun h => h), h2.at hc (fun _ _ h => h), fun g hg => keep (h3 g hg) (by intro h; cases h), h4⟩
  · intro b hb
    by_cases e : b = w.heap.size
    · subst e; simp
    · simp only [if_neg e] at hb
      have := R.old b hb
      simp; omega
theorem RepV.do_step {w w' : World} {T : Nat → Tag} {q : Nat} {m : M} {nv sv mv mv' : Value} {nn ns nb : Nat} {v : Mv} (R : RepV w T q m nv sv mv nn ns) (hS : ShAt w' q {m with now := v.on m.now, moves := m.moves ++ [v]} (.map (some nb)) sv mv') (hN : NM w' nb (nn + 1) (v.on m.now)) (hM : MvAt w' mv' (m.moves ++ [v]))
    (h1 : mapBlock nv = some nb ∨ w.heap.size ≤ nb) (h2 : ∀ b, mv'.ownBlock = some b → mv.ownBlock = some b ∨ w.heap.size ≤ b) (h3 : mv'.ownBlock ≠ some nb) (hc : Chg w w' (fun k => k = q ∨ mapBlock nv = some k ∨ mv.ownBlock = some k))
    (hf : ∀ b, v.f = some b → T b = .file) (hl : v.fr.length ≤ 1000 ∧ v.to.length ≤ 1000) (hbn : nn < m.done) (hbs : ns + m.moves.length < m.done) :
    RepV w' (fun b => if b < w.heap.size then T b else if b = nb then .names else if mv'.ownBlock = some b then .moves else .none) q {m with now := v.on m.now, moves := m.moves ++ [v]} (.map (some nb)) sv mv' (nn + 1) ns := by
  have keep : ∀ {b t}, T b = t → t ≠ .none → (if b < w.heap.size then T b else if b = nb then Tag.names else if mv'.ownBlock = some b then .moves else .none) = t := fun {b t} h ht => by
    rw [if_pos (R.old b (by rw [h]; exact ht)), h]
  have ne : ∀ {b}, T b ≠ .shelf → T b ≠ .names → T b ≠ .moves → ¬ (b = q ∨ mapBlock nv = some b ∨ mv.ownBlock = some b) := fun k1 k2 k3 h => by
    rcases h with h | h | h
    · exact k1 (by rw [h]; exact R.tq)
    · exact k2 (R.tn _ h)
    · exact k3 (R.tm _ h)
  have hnb : nb < w'.heap.size := hN.lt
  refine ⟨hS, keep R.tq (by intro h; cases h), Or.inr ⟨nb, rfl, hN⟩, ?_, R.sf.at hc (fun b hb => ne (by rw [R.ts b hb]; intro h; cases h) (by rw [R.ts b hb]; intro h; cases h) (by rw [R.ts b hb]; intro h; cases h)), fun b hb => keep (R.ts b hb) (by intro h; cases h), hM, ?_, ?_, ?_, ?_,
    fun p hp => keep (R.lsafe p hp) (by intro h; cases h), ?_, hbn, by simp; omega⟩
  · intro b hb
    obtain rfl : nb = b := by simpa [mapBlock] using hb
    rcases h1 with h | h
    · exact keep (R.tn nb h) (by intro h; cases h)
    · rw [if_neg (by omega), if_pos rfl]
  · intro b hb
    rcases h2 b hb with h | h
    · exact keep (R.tm b h) (by intro h; cases h)
    · rw [if_neg (by omega), if_neg (by intro e; subst e; exact h3 hb), if_pos hb]
  · intro b hb
    have hb' : T b = .file := by
      by_cases e : b < w.heap.size
      · rwa [if_pos e] at hb
      · rw [if_neg e] at hb
        split at hb
        · cases hb
        · split at hb <;> cases hb
    obtain ⟨x, k1, k2, k3, k4⟩ := R.fl b hb'
    exact ⟨x, k1.at hc (ne (by rw [hb']; intro h; cases h) (by rw [hb']; intro h; cases h) (by rw [hb']; intro h; cases h)), k2.at hc (fun g hg => ne (by rw [k3 g hg]; intro h; cases h) (by rw [k3 g hg]; intro h; cases h) (by rw [k3 g hg]; intro h; cases h)), fun g hg => keep (k3 g hg) (by intro h; cases h), k4⟩
  · intro b hb
    by_cases e : b < w.heap.size
    · exact Nat.lt_of_lt_of_le e hc.size
    · rw [if_neg e] at hb
      by_cases e1 : b = nb
      · rw [e1]; exact hnb
      · rw [if_neg e1] at hb
        by_cases e2 : mv'.ownBlock = some b
        · exact hM.lt b e2
        · rw [if_neg e2] at hb; exact absurd rfl hb
  · intro p hp
    refine keep ?_ (by intro h; cases h)
    unfold Mv.on at hp
    cases hvf : v.f with
    | none => rw [hvf] at hp; exact R.lnow p (mem_wo.1 hp).1
    | some c =>
      rw [hvf] at hp
      rcases List.mem_append.1 hp with hp | hp
      · exact R.lnow p (mem_wo.1 (mem_wo.1 hp).1).1
      · simp at hp; subst hp; exact hf c hvf
  · intro x hx
    rcases List.mem_append.1 hx with hx | hx
    · exact ⟨fun b hb => keep ((R.lmov x hx).1 b hb) (by intro h; cases h), (R.lmov x hx).2⟩
    · simp at hx; subst hx
      exact ⟨fun b hb => keep (hf b hb) (by intro h; cases h), hl⟩
end Go.Proofs.YtdbhgkbmbbjpdaaGreatDoor.Shf
namespace Go.Proofs.YtdbhgkbmbbjpdaaGreatDoor.Shf
def M.mv (m : M) (v : Mv) : M := {m with now := v.on m.now, moves := m.moves ++ [v]}
def M.file (m : M) (b : Nat) (x : S × Nat) : M := {m with fl := fun c => if c = b then x else m.fl c}
def M.create (m : M) (name : S) (b : Nat) : M :=
  if nameOk name = false then m else if m.actE = 7 then m.act else match get m.now name with
    | some _ => m.act
    | none => (m.act.file b ([], 0)).mv ⟨[], name, some b⟩
def M.createE (m : M) (name : S) : Nat := if nameOk name = false then 1 else if m.actE = 7 then 7 else match get m.now name with | some _ => 9 | none => 0
def M.onE (m : M) (name : S) : Nat := if m.actE = 7 then 7 else match get m.now name with | some _ => 0 | none => 2
def M.onF (m : M) (name : S) : Option Nat := if m.actE = 7 then none else get m.now name
def M.append (m : M) (name p : S) : M := match m.onF name with
  | none => m.act
  | some b => if (m.named + m.gone + p.length : Int) > m.room then m.act else {m.act with fl := fun c => if c = b then ((m.fl b).1 ++ p, (m.fl b).2) else m.fl c, named := m.named + p.length}
def M.appendE (m : M) (name p : S) : Nat := match m.onF name with
  | none => m.onE name
  | some _ => if (m.named + m.gone + p.length : Int) > m.room then 3 else 0
def M.sync (m : M) (name : S) : M := match m.onF name with
  | none => m.act
  | some b => m.act.file b ((m.fl b).1, (m.fl b).1.length)
def M.names (m : M) : M := if m.actE = 7 then m.act else {m.act with safe := ages m.safe m.moves, moves := [], gone := 0}
def M.rename (m : M) (fr to : S) : M := if nameOk to = false then m else match m.onF fr with
  | none => m.act
  | some b => if fr = to then m.act else (m.act.lose to).mv ⟨fr, to, some b⟩
def M.renameE (m : M) (fr to : S) : Nat := if nameOk to = false then 1 else m.onE fr
def M.delete (m : M) (name : S) : M := match m.onF name with
  | none => m.act
  | some _ => (m.act.lose name).mv ⟨name, [], none⟩
def M.cut (m : M) (name : S) (n : Int) : M := match m.onF name with
  | none => m.act
  | some b => if n < 0 ∨ n > (m.fl b).1.length then m.act else {m.act with fl := fun c => if c = b then ((m.fl b).1.take n.toNat, n.toNat) else m.fl c, named := m.named - ((m.fl b).1.length - n.toNat)}
def M.cutE (m : M) (name : S) (n : Int) : Nat := match m.onF name with
  | none => m.onE name
  | some b => if n < 0 ∨ n > (m.fl b).1.length then 1 else 0
def left (x : S × Nat) (bytes : Int) : Nat := x.2 + min bytes.toNat (x.1.length - x.2)
def fallF (fl : Nat → S × Nat) (l : List (S × Nat)) (bytes : Int) : Nat → S × Nat := fun b => if l.any (fun p => p.2 == b) then ((fl b).1.take (left (fl b) bytes), left (fl b) bytes) else fl b
def M.fall (m : M) (names bytes : Int) : M :=
  let l := ages m.safe (m.moves.take (min names.toNat m.moves.length))
  {m with now := l, safe := l, moves := [], fl := fallF m.fl l bytes, named := tot (fallF m.fl l bytes) l, gone := 0, armed := false, fallen := false}
theorem onE_cases (m : M) (name : S) : (m.onE name = 7 ∧ m.onF name = none ∧ m.actE = 7) ∨ (m.onE name = 2 ∧ m.onF name = none ∧ m.actE = 0 ∧ get m.now name = none) ∨ ∃ b, m.onE name = 0 ∧ m.onF name = some b ∧ m.actE = 0 ∧ get m.now name = some b := by
  unfold M.onE M.onF
  rcases actE_cases m with h | h
  · cases hg : get m.now name <;> simp [h]
  · simp [h]
theorem Fine.mv {m : M} {v : Mv} {fl : Nat → S × Nat} {nd gn : Nat} (F : Fine m) (hg : Good (v.on m.now)) (hn : nd = tot fl (v.on m.now)) (hb : nd + gn ≤ 1000000000) (hl : ∃ lost, LostIs {m with now := v.on m.now, moves := m.moves ++ [v], fl := fl, named := nd, gone := gn} lost) : Fine {m with now := v.on m.now, moves := m.moves ++ [v], fl := fl, named := nd, gone := gn} := by
  have e : ages m.safe (m.moves ++ [v]) = v.on m.now := by rw [F.now]; simp [ages]
  refine ⟨F.ahead, hn, ?_, e.symm, F.room, hb, hl⟩
  intro k hk
  simp only [List.length_append, List.length_cons, List.length_nil] at hk
  rcases Nat.lt_or_ge m.moves.length k with h | h
  · have : k = m.moves.length + 1 := by omega
    subst this
    show Good (ages m.safe ((m.moves ++ [v]).take (m.moves.length + 1)))
    rw [List.take_of_length_le (by simp), e]
    exact hg
  · show Good (ages m.safe ((m.moves ++ [v]).take k))
    rw [List.take_append_of_le_length h]
    exact F.good k h
theorem Fine.goodNow {m : M} (F : Fine m) : Good m.now := by
  have := F.good m.moves.length (Nat.le_refl _)
  rw [List.take_length] at this
  rw [F.now]; exact this
theorem Fine.fresh {m : M} (F : Fine m) {b : Nat} (hb : ∀ k, k ≤ m.moves.length → b ∉ files (ages m.safe (m.moves.take k))) : ∀ s, (s, b) ∉ m.now := fun s hs => by
  have := hb m.moves.length (Nat.le_refl _)
  rw [List.take_length, ← F.now] at this
  exact this (mem_files.2 ⟨s, hs⟩)
theorem Fine.create {m : M} (F : Fine m) (name : S) (b : Nat) (hbb : ∀ k, k ≤ m.moves.length → b ∉ files (ages m.safe (m.moves.take k))) : Fine (m.create name b) := by
  have hb := F.fresh hbb
  unfold M.create
  split
  · exact F
  · rename_i hk
    split
    · exact F.act
    · cases hg : get m.now name with
      | some c => exact F.act
      | none =>
        have FA := F.act
        obtain ⟨e1, e2, e3, e4, e5, e6, e7⟩ := act_now m
        have hne : name ≠ [] := by intro e; subst e; exact hk (by decide)
        have G := F.goodNow
        have h := FA.mv (v := ⟨[], name, some b⟩) (fl := fun c => if c = b then ([], 0) else m.fl c) (nd := m.named) (gn := m.gone) (by
            rw [e1]; exact G.mv _ (fun c hc => by cases hc; exact ⟨hne, fun t _ => hb t⟩)) (by rw [e1, tot_new G hg hb]; exact F.named) F.bytes (by
            obtain ⟨lost, hL⟩ := FA.lost
            have hbl : b ∉ lost := fun hm => by
              obtain ⟨k, hk, h⟩ := hL.some b hm
              rw [e2, e3] at h
              rw [e3] at hk
              exact hbb k hk h
            have eo : Mv.on ⟨[], name, some b⟩ m.now = m.now ++ [(name, b)] := by
              simp only [Mv.on, wi]
              rw [wo_self G.ne, wo_self]
              intro p hp e
              exact get_none.1 hg p.2 (by rw [← e]; exact hp)
            refine ⟨lost, hL.mv FA.now hL.nd ?_ ?_ (fun b h => h) (fun b h => Or.inl h) ?_⟩
            · intro c hc hm
              rw [e1, eo] at hm
              simp only [files, List.map_append, List.map_cons, List.map_nil, List.mem_append, List.mem_singleton] at hm
              rcases hm with hm | hm
              · have := hL.out c hc; rw [e1] at this; exact this hm
              · subst hm; exact hbl hc
            · intro c hc
              rw [e1] at hc ⊢
              rw [eo]
              left
              simp only [files, List.map_append, List.mem_append] at hc ⊢
              exact Or.inl hc
            · rw [sumf_upd hbl, ← e6, ← e4]; exact hL.sum)
        simp only [M.mv, M.file]
        rw [e4]
        rw [← e5, ← e6] at h
        exact h
theorem Fine.lostFile {m m' : M} (F : Fine m) {b : Nat} {x : S × Nat} (hb : b ∈ files m.now) (hf : m'.fl = fun c => if c = b then x else m.fl c) (e : (m'.now, m'.safe, m'.moves, m'.gone) = (m.now, m.safe, m.moves, m.gone)) : ∃ lost, LostIs m' lost := by
  obtain ⟨lost, h⟩ := F.lost
  simp only [Prod.mk.injEq] at e
  obtain ⟨e1, e2, e3, e4⟩ := e
  refine ⟨lost, h.nd, by rw [e1]; exact h.out, by rw [e1, e2, e3]; exact h.all, by rw [e2, e3]; exact h.some, ?_⟩
  rw [e4, hf, sumf_upd (fun hm => h.out b hm hb)]
  exact h.sum
theorem Fine.append {m : M} (F : Fine m) (name p : S) : Fine (m.append name p) := by
  unfold M.append
  cases hf : m.onF name with
  | none => exact F.act
  | some b =>
    simp only
    split
    · exact F.act
    · rename_i hr
      have FA := F.act
      obtain ⟨e1, e2, e3, e4, e5, e6, e7⟩ := act_now m
      have hg : get m.now name = some b := by
        unfold M.onF at hf; split at hf
        · cases hf
        · exact hf
      have ht : _ + (m.fl b).1.length = _ + ((m.fl b).1 ++ p).length := tot_upd (fl := m.fl) (x := ((m.fl b).1 ++ p, (m.fl b).2)) F.goodNow.files (mem_get hg)
      rw [List.length_append] at ht
      have hr2 := F.room
      refine ⟨FA.ahead, ?_, FA.good, FA.now, FA.room, ?_, FA.lostFile (by rw [e1]; exact mem_files.2 ⟨_, mem_get hg⟩) (by rw [e4]) rfl⟩
      · show m.named + p.length = tot (fun c => if c = b then ((m.fl b).1 ++ p, (m.fl b).2) else m.fl c) m.act.now
        have := F.named
        rw [e1]
        omega
      · show m.named + p.length + m.act.gone ≤ _
        rw [e6]
        have hr : ¬ ((m.named : Int) + m.gone + p.length > m.room) := hr
        omega
theorem Fine.sync {m : M} (F : Fine m) (name : S) : Fine (m.sync name) := by
  unfold M.sync
  cases hf : m.onF name with
  | none => exact F.act
  | some b =>
    have FA := F.act
    obtain ⟨e1, e2, e3, e4, e5, e6, e7⟩ := act_now m
    have hg : get m.now name = some b := by
      unfold M.onF at hf; split at hf
      · cases hf
      · exact hf
    have ht : _ + (m.fl b).1.length = _ + (m.fl b).1.length := tot_upd (fl := m.fl) (x := ((m.fl b).1, (m.fl b).1.length)) F.goodNow.files (mem_get hg)
    refine ⟨FA.ahead, ?_, FA.good, FA.now, FA.room, FA.bytes, FA.lostFile (by rw [e1]; exact mem_files.2 ⟨_, mem_get hg⟩) rfl rfl⟩
    show m.act.named = tot (fun c => if c = b then _ else m.act.fl c) m.act.now
    rw [e1, e5, e4]
    have := F.named
    omega
theorem Fine.cut {m : M} (F : Fine m) (name : S) (n : Int) : Fine (m.cut name n) := by
  unfold M.cut
  cases hf : m.onF name with
  | none => exact F.act
  | some b =>
    simp only
    split
    · exact F.act
    · rename_i hr
      have FA := F.act
      obtain ⟨e1, e2, e3, e4, e5, e6, e7⟩ := act_now m
      have hg : get m.now name = some b := by
        unfold M.onF at hf; split at hf
        · cases hf
        · exact hf
      have hm := mem_get hg
      have ht : _ + (m.fl b).1.length = _ + ((m.fl b).1.take n.toNat).length := tot_upd (fl := m.fl) (x := ((m.fl b).1.take n.toNat, n.toNat)) F.goodNow.files hm
      have hle := tot_le (fl := m.fl) hm
      have hn := F.named
      have hby := F.bytes
      refine ⟨FA.ahead, ?_, FA.good, FA.now, FA.room, ?_, FA.lostFile (by rw [e1]; exact mem_files.2 ⟨_, mem_get hg⟩) (by rw [e4]) rfl⟩
      · show m.named - ((m.fl b).1.length - n.toNat) = tot (fun c => if c = b then ((m.fl b).1.take n.toNat, n.toNat) else m.fl c) m.act.now
        rw [e1]
        rw [List.length_take] at ht
        omega
      · show m.named - _ + m.act.gone ≤ _
        rw [e6]; omega
theorem Fine.settle {m : M} (F : Fine m) (k : Nat) (hk : k ≤ m.moves.length) {nw : List (S × Nat)} {fl : Nat → S × Nat} {nd : Nat} (hn : nw = ages m.safe (m.moves.take k)) (h : nd = tot fl nw) (hb : nd ≤ 1000000000) : Fine {m with safe := ages m.safe (m.moves.take k), moves := [], gone := 0, now := nw, fl := fl, named := nd} := by
  refine ⟨F.ahead, h, ?_, hn, F.room, hb, [], by simp, by simp, ?_, by simp, rfl⟩
  · intro j hj
    simp at hj
    subst hj
    show Good (ages (ages m.safe (m.moves.take k)) [])
    exact F.good k hk
  · intro j hj b hb'
    left
    have hb' : b ∈ files (ages (ages m.safe (m.moves.take k)) (([] : List Mv).take j)) := hb'
    rw [List.take_nil] at hb'
    show b ∈ files nw
    rw [hn]; exact hb'
theorem Fine.names {m : M} (F : Fine m) : Fine m.names := by
  unfold M.names
  split
  · exact F.act
  · have FA := F.act
    obtain ⟨e1, e2, e3, e4, e5, e6, e7⟩ := act_now m
    have hb := FA.bytes
    have h := FA.settle m.moves.length (by rw [e3]; exact Nat.le_refl _) (nw := m.act.now) (fl := m.act.fl) (nd := m.act.named) (by rw [e1, e2, e3, List.take_length]; exact F.now) FA.named (by omega)
    rw [e2, e3, List.take_length] at h
    exact h
theorem lose_now (m : M) (name : S) : (m.lose name).now = m.now ∧ (m.lose name).safe = m.safe ∧ (m.lose name).moves = m.moves ∧ (m.lose name).fl = m.fl ∧ (m.lose name).done = m.done := by
  unfold M.lose; split <;> simp
theorem Fine.lose {m : M} (F : Fine m) (name : S) (v : Mv) (hg : Good (v.on m.now)) (ht : tot m.fl (v.on m.now) + (match get m.now name with | none => 0 | some c => (m.fl c).1.length) = tot m.fl m.now)
    (hf : ∀ b, b ∈ files (v.on m.now) ↔ b ∈ files m.now ∧ get m.now name ≠ some b) : Fine ((m.lose name).mv v) := by
  have hn := F.named
  have hb := F.bytes
  obtain ⟨lost, hL⟩ := F.lost
  unfold M.lose M.mv
  cases e : get m.now name with
  | none =>
    rw [e] at ht
    have ht : tot m.fl (v.on m.now) + 0 = tot m.fl m.now := ht
    refine F.mv (fl := m.fl) (nd := m.named) (gn := m.gone) hg (by omega) hb ⟨lost, hL.mv F.now hL.nd (fun b hb h => hL.out b hb ((hf b).1 h).1) (fun b hb => Or.inl ((hf b).2 ⟨hb, by rw [e]; simp⟩)) (fun b h => h) (fun b h => Or.inl h) hL.sum⟩
  | some c =>
    rw [e] at ht
    simp only at ht ⊢
    have hc : c ∈ files m.now := mem_files.2 ⟨_, mem_get e⟩
    refine F.mv hg (by omega) (by omega) ⟨c :: lost, hL.mv F.now ?_ ?_ ?_ (fun b h => List.mem_cons_of_mem _ h) ?_ ?_⟩
    · exact List.nodup_cons.2 ⟨fun h => hL.out c h hc, hL.nd⟩
    · intro b hb' h
      rcases List.mem_cons.1 hb' with h' | h'
      · subst h'; exact ((hf b).1 h).2 e
      · exact hL.out b h' ((hf b).1 h).1
    · intro b hb'
      by_cases h : b = c
      · right; rw [h]; exact List.mem_cons_self ..
      · left; exact (hf b).2 ⟨hb', by rw [e]; intro h'; injection h' with h'; exact h h'.symm⟩
    · intro b hb'
      rcases List.mem_cons.1 hb' with h' | h'
      · right; rw [h']; exact hc
      · exact Or.inl h'
    · rw [sumf_cons, hL.sum]; omega
theorem files_del {l : List (S × Nat)} (G : Good l) {name : S} {c : Nat} (_h : get l name = some c) (b : Nat) : b ∈ files (Mv.on ⟨name, [], none⟩ l) ↔ b ∈ files l ∧ get l name ≠ some b := by
  simp only [Mv.on, mem_files]
  constructor
  · rintro ⟨s, hs⟩
    obtain ⟨h1, h2⟩ := mem_wo.1 hs
    exact ⟨⟨s, h1⟩, fun e => h2 (G.one h1 (mem_get e))⟩
  · rintro ⟨⟨s, hs⟩, h2⟩
    exact ⟨s, mem_wo.2 ⟨hs, fun e => h2 (by have e : s = name := e; rw [← e]; exact get_mem G.keys hs)⟩⟩
theorem files_ren {l : List (S × Nat)} (G : Good l) {fr to : S} {c : Nat} (h : get l fr = some c) (hne : fr ≠ to) (b : Nat) : b ∈ files (Mv.on ⟨fr, to, some c⟩ l) ↔ b ∈ files l ∧ get l to ≠ some b := by
  simp only [Mv.on, wi, mem_files]
  constructor
  · rintro ⟨s, hs⟩
    rcases List.mem_append.1 hs with hs | hs
    · obtain ⟨h0, h2⟩ := mem_wo.1 hs
      obtain ⟨h1, _⟩ := mem_wo.1 h0
      exact ⟨⟨s, h1⟩, fun e => h2 (G.one h1 (mem_get e))⟩
    · simp only [List.mem_singleton, Prod.mk.injEq] at hs
      obtain ⟨rfl, rfl⟩ := hs
      exact ⟨⟨fr, mem_get h⟩, fun e => hne (G.one (mem_get h) (mem_get e))⟩
  · rintro ⟨⟨s, hs⟩, h2⟩
    by_cases e : s = fr
    · subst e
      have : b = c := by have := get_mem G.keys hs; rw [h] at this; injection this with this; exact this.symm
      subst this
      exact ⟨to, List.mem_append.2 (Or.inr (by simp))⟩
    · refine ⟨s, List.mem_append.2 (Or.inl (mem_wo.2 ⟨mem_wo.2 ⟨hs, e⟩, fun e2 => h2 ?_⟩))⟩
      have e2 : s = to := e2
      rw [← e2]; exact get_mem G.keys hs
theorem Fine.rename {m : M} (F : Fine m) (fr to : S) : Fine (m.rename fr to) := by
  unfold M.rename
  split
  · exact F
  · rename_i hk
    cases hf : m.onF fr with
    | none => exact F.act
    | some b =>
      simp only
      split
      · exact F.act
      · rename_i hne
        have FA := F.act
        obtain ⟨e1, e2, e3, e4, e5, e6, e7⟩ := act_now m
        have hg : get m.now fr = some b := by
          unfold M.onF at hf; split at hf
          · cases hf
          · exact hf
        have hto : to ≠ [] := by intro e; subst e; exact hk (by decide)
        have G := F.goodNow
        refine FA.lose to _ ?_ ?_ ?_
        · rw [e1]; exact G.mv _ (fun c hc => by cases hc; exact ⟨hto, fun t ht hm => ht (G.one hm (mem_get hg))⟩)
        · rw [e1, e4]; exact tot_ren G hg hne
        · rw [e1]; exact files_ren G hg hne
theorem Fine.delete {m : M} (F : Fine m) (name : S) : Fine (m.delete name) := by
  unfold M.delete
  cases hf : m.onF name with
  | none => exact F.act
  | some b =>
    have FA := F.act
    obtain ⟨e1, e2, e3, e4, e5, e6, e7⟩ := act_now m
    have hg : get m.now name = some b := by
      unfold M.onF at hf; split at hf
      · cases hf
      · exact hf
    have G := F.goodNow
    refine FA.lose name _ ?_ ?_ ?_
    · rw [e1]; exact G.mv _ (fun c hc => by cases hc)
    · rw [e1, e4, hg]; exact tot_del G hg
    · rw [e1]; exact files_del G hg
theorem Fine.bound {m : M} (F : Fine m) (k : Nat) (hk : k ≤ m.moves.length) : tot m.fl (ages m.safe (m.moves.take k)) ≤ m.named + m.gone := by
  obtain ⟨lost, h⟩ := F.lost
  rw [tot_files, F.named, tot_files, h.sum, ← sumf_app]
  refine sumf_le m.fl (F.good k hk).files ?_
  intro b hb
  exact List.mem_append.2 (h.all k hk b hb)
theorem left_le (x : S × Nat) (n : Int) (h : x.2 ≤ x.1.length) : left x n ≤ x.1.length := by unfold left; omega
theorem tot_fall_le (fl : Nat → S × Nat) (l l' : List (S × Nat)) (n : Int) : tot (fallF fl l n) l' ≤ tot fl l' := by
  unfold tot
  induction l' with
  | nil => simp
  | cons p r ih =>
    simp only [List.map_cons, List.sum_cons]
    have : (fallF fl l n p.2).1.length ≤ (fl p.2).1.length := by
      unfold fallF; split
      · simp only [List.length_take]; omega
      · exact Nat.le_refl _
    omega
end Go.Proofs.YtdbhgkbmbbjpdaaGreatDoor.Shf
namespace Go.Proofs.YtdbhgkbmbbjpdaaGreatDoor.Shf
open Go.ChangeShapes Go.WideShapes Go.ChangeAt Go.RowKit
theorem RepV.file_write {w w' : World} {T : Nat → Tag} {q : Nat} {m : M} {nv sv mv : Value} {nn ns b : Nat} {v v' : Value} {x : S × Nat} (R : RepV w T q m nv sv mv nn ns) (hb : T b = .file) (hv : ∀ g, v.ownBlock = some g → T g = .row b) (hc : Chg w w' (fun k => k = b ∨ v.ownBlock = some k))
    (hF : FlAt w' b v' x.2) (hO : Own w' v' x.1) (ho : ∀ g, v'.ownBlock = some g → v.ownBlock = some g ∨ w.heap.size ≤ g) (hx : x.2 ≤ x.1.length) :
    RepV w' (fun k => if k < w.heap.size then T k else if v'.ownBlock = some k then .row b else .none) q (m.file b x) nv sv mv nn ns := by
  have keep : ∀ {k t}, T k = t → t ≠ .none → (if k < w.heap.size then T k else if v'.ownBlock = some k then Tag.row b else .none) = t := fun {k t} h ht => by
    rw [if_pos (R.old k (by rw [h]; exact ht)), h]
  have ne : ∀ {k}, T k ≠ .file → T k ≠ .row b → ¬ (k = b ∨ v.ownBlock = some k) := fun k1 k2 h => by
    rcases h with h | h
    · exact k1 (by rw [h]; exact hb)
    · exact k2 (hv _ h)
  refine ⟨R.sh.at hc (ne (by rw [R.tq]; intro h; cases h) (by rw [R.tq]; intro h; cases h)), keep R.tq (by intro h; cases h), R.nm.at hc (fun k hk => ne (by rw [R.tn k hk]; intro h; cases h) (by rw [R.tn k hk]; intro h; cases h)), fun k hk => keep (R.tn k hk) (by intro h; cases h),
    R.sf.at hc (fun k hk => ne (by rw [R.ts k hk]; intro h; cases h) (by rw [R.ts k hk]; intro h; cases h)), fun k hk => keep (R.ts k hk) (by intro h; cases h), R.mo.at hc (fun k hk => ne (by rw [R.tm k hk]; intro h; cases h) (by rw [R.tm k hk]; intro h; cases h)), fun k hk => keep (R.tm k hk) (by intro h; cases h), ?_, ?_,
    fun p hp => keep (R.lnow p hp) (by intro h; cases h), fun p hp => keep (R.lsafe p hp) (by intro h; cases h), fun y hy => ⟨fun c hc => keep ((R.lmov y hy).1 c hc) (by intro h; cases h), (R.lmov y hy).2⟩, R.bnn, R.bns⟩
  · intro c hcT
    have hcT' : T c = .file := by
      by_cases e : c < w.heap.size
      · rwa [if_pos e] at hcT
      · rw [if_neg e] at hcT
        split at hcT <;> cases hcT
    by_cases e : c = b
    · subst e
      refine ⟨v', ?_, ?_, ?_, ?_⟩
      · simp only [M.file, if_true]; exact hF
      · simp only [M.file, if_true]; exact hO
      · intro g hg
        rcases ho g hg with h | h
        · exact keep (hv g h) (by intro h; cases h)
        · rw [if_neg (by omega), if_pos hg]
      · simp only [M.file, if_true]; exact hx
    · obtain ⟨y, h1, h2, h3, h4⟩ := R.fl c hcT'
      simp only [M.file, if_neg e]
      have hr : ∀ g, y.ownBlock = some g → ¬ (g = b ∨ v.ownBlock = some g) := fun g hg => ne (by rw [h3 g hg]; intro h; cases h) (by rw [h3 g hg]; intro h; injection h with h; exact e h)
      exact ⟨y, h1.at hc (fun h => h.elim e (fun h => by have := hv c h; rw [hcT'] at this; cases this)), h2.at hc hr, fun g hg => keep (h3 g hg) (by intro h; cases h), h4⟩
  · intro k hk
    by_cases e : k < w.heap.size
    · exact Nat.lt_of_lt_of_le e hc.size
    · rw [if_neg e] at hk
      by_cases e2 : v'.ownBlock = some k
      · exact hO.lt k e2
      · rw [if_neg e2] at hk; exact absurd rfl hk
theorem chg_of_grown {w w' : World} {q : Nat} (h : w.grownBy w' (some q)) : Chg w w' (fun k => k = q) := (chg_grown h).wide (fun i _ h => by injection h with h; exact h.symm)
theorem tag_ne {T : Nat → Tag} {k : Nat} {t : Tag} (h : T k = t) (ht : t ≠ .none) : T k ≠ .none := by rw [h]; exact ht
theorem act_rep (w : World) (T : Nat → Tag) (q : Nat) (m : M) (R : Rep w T q m) (hd : m.done < 1000000000) :
    Calls Tryz.prog 45 #[.pointer (some ⟨q, 0, none⟩)] w fun e w' => e = .returned (.int .i64 (m.actE : Int)) ∧ Rep w' T q m.act ∧ Ext w T w' T := by
  obtain ⟨⟨nv, sv, mv, nn, ns, R⟩, F⟩ := R
  refine (act_any w q m nv sv mv R.sh (by omega) F.ahead).mono ?_
  rintro e w' ⟨rfl, h1, h2⟩
  obtain ⟨e1, e2, e3, e4, _⟩ := act_now m
  exact ⟨rfl, ⟨⟨nv, sv, mv, nn, ns, R.sh_step (chg_of_grown h2) h1 ⟨e1, e2, e3, e4⟩ (act_done m).1⟩, F.act⟩, (chg_of_grown h2).ext (fun k _ e => by rw [e]; exact tag_ne R.tq (by intro h; cases h)) (fun _ _ => rfl)⟩
set_option maxRecDepth 4000 in
theorem actOn_rep (w : World) (T : Nat → Tag) (q : Nat) (m : M) (name : S) (R : Rep w T q m) (hd : m.done < 1000000000) (hl : name.length ≤ 1000) :
    Calls Tryz.prog 66 #[.pointer (some ⟨q, 0, none⟩), .string (str name)] w fun e w' => e = .returned (.tuple #[ptrV (m.onF name), .int .i64 (m.onE name : Int)]) ∧ Rep w' T q m.act ∧ Ext w T w' T := by
  have c32 := act_rep w T q m R hd
  obtain ⟨nm, hnm⟩ : ∃ nm, nm = str name := ⟨_, rfl⟩
  have HL : ∀ w' nv sv mv nn ns, RepV w' T q m.act nv sv mv nn ns → (Instr.lookup 76 nv (.string nm) false).run Tryz.prog w' = .ok (ptrV (get m.now name)) w' ∧ w'.cell? ⟨q, 1, none⟩ = some nv := fun w' nv sv mv nn ns R => by
    have h := R.nm.look (s := name) (by omega)
    rw [(act_now m).1, ← hnm] at h
    exact ⟨h, R.sh.cell 1⟩
  rw [← hnm]
  rcases onE_cases m name with ⟨h1, h2, h3⟩ | ⟨h1, h2, h3, h4⟩ | ⟨b, h1, h2, h3, h4⟩
  · rw [h1, h2]
    rw [h3] at c32
    simp only [ptrV]
    clear HL hnm h1 h2 h3 R
    go_enter Tryz.func66, Tryz.ntmps66
    go_wp2_with (first | (go_at_call 45; refine c32.mono ?_; rintro e w' ⟨rfl, R', X⟩))
    go_ret2
    exact ⟨rfl, R', X⟩
  · rw [h1, h2]
    rw [h3] at c32
    rw [h4] at HL
    simp only [ptrV] at HL ⊢
    clear hnm h1 h2 h3 h4 R
    have HL := Lib.hid HL
    go_enter Tryz.func66, Tryz.ntmps66
    go_wp2_with (first | (go_at_call 45; refine c32.mono ?_; rintro e w' ⟨rfl, R', X⟩; obtain ⟨⟨nv, sv, mv, nn, ns, RV⟩, F'⟩ := R'; obtain ⟨y1, y2⟩ := HL.out _ _ _ _ _ _ RV))
    go_ret2
    exact ⟨rfl, ⟨⟨_, _, _, _, _, RV⟩, F'⟩, X⟩
  · rw [h1, h2]
    rw [h3] at c32
    rw [h4] at HL
    simp only [ptrV] at HL ⊢
    clear hnm h1 h2 h3 h4 R
    have HL := Lib.hid HL
    go_enter Tryz.func66, Tryz.ntmps66
    go_wp2_with (first | (go_at_call 45; refine c32.mono ?_; rintro e w' ⟨rfl, R', X⟩; obtain ⟨⟨nv, sv, mv, nn, ns, RV⟩, F'⟩ := R'; obtain ⟨y1, y2⟩ := HL.out _ _ _ _ _ _ RV))
    go_ret2
    exact ⟨rfl, ⟨⟨_, _, _, _, _, RV⟩, F'⟩, X⟩
theorem Rep.fileOf {w : World} {T : Nat → Tag} {q : Nat} {m : M} (R : Rep w T q m) {name : S} {b : Nat} (h : get m.now name = some b) : T b = .file := by
  obtain ⟨⟨nv, sv, mv, nn, ns, R⟩, _⟩ := R
  exact R.lnow _ (mem_get h)
set_option maxRecDepth 4000 in
theorem sync_rep (w : World) (T : Nat → Tag) (q : Nat) (m : M) (name : S) (R : Rep w T q m) (hd : m.done < 1000000000) (hl : name.length ≤ 1000) :
    Calls Tryz.prog 52 #[.pointer (some ⟨q, 0, none⟩), .string (str name)] w fun e w' => e = .returned (.int .i64 (m.onE name : Int)) ∧ ∃ T', Rep w' T' q (m.sync name) ∧ Ext w T w' T' := by
  have c34 := actOn_rep w T q m name R hd hl
  obtain ⟨nm, hnm⟩ : ∃ nm, nm = str name := ⟨_, rfl⟩
  rw [← hnm] at c34 ⊢
  rcases onE_cases m name with ⟨h1, h2, h3⟩ | ⟨h1, h2, h3, h4⟩ | ⟨b, h1, h2, h3, h4⟩
  · rw [h1]
    rw [h1, h2] at c34
    rw [show m.sync name = m.act by simp [M.sync, h2]]
    simp only [ptrV] at c34
    clear hnm h1 h2 h3 R
    go_enter Tryz.func52, Tryz.ntmps52
    go_wp2_with (first | (go_at_call 66; refine c34.mono ?_; rintro e w' ⟨rfl, R', X⟩))
    go_ret
    exact ⟨rfl, _, R', X⟩
  · rw [h1]
    rw [h1, h2] at c34
    rw [show m.sync name = m.act by simp [M.sync, h2]]
    simp only [ptrV] at c34
    clear hnm h1 h2 h3 h4 R
    go_enter Tryz.func52, Tryz.ntmps52
    go_wp2_with (first | (go_at_call 66; refine c34.mono ?_; rintro e w' ⟨rfl, R', X⟩))
    go_ret
    exact ⟨rfl, _, R', X⟩
  · have hT := R.fileOf h4
    have hFn := R.2.sync name
    rw [h1]
    rw [h1, h2] at c34
    rw [show m.sync name = m.act.file b ((m.fl b).1, (m.fl b).1.length) by simp [M.sync, h2]] at hFn ⊢
    simp only [ptrV] at c34
    have hfl := (act_now m).2.2.2.1
    have HT := Lib.hid hT
    have HFn := Lib.hid hFn
    have Hfl := Lib.hid hfl
    clear hnm h1 h2 h3 h4 R hT hFn hfl
    go_enter Tryz.func52, Tryz.ntmps52
    go_wp2_with (first | (go_at_call 66; refine c34.mono ?_; rintro e w' ⟨rfl, R', X⟩; obtain ⟨⟨nv, sv, mv, nn, ns, RV⟩, F'⟩ := R'; obtain ⟨v, k1, k2, k3, k4⟩ := RV.fl b HT.out; obtain ⟨A, c, hv, _, _, _, _⟩ := k2.form; rw [Hfl.out] at hv; have y0 := k1.cell0; rw [hv] at y0; have y1 := k1.cell1; have z1 := k1.fz 1))
    go_ret
    have FW := k1.set1 (m.fl b).1.length
    have hc := chg_set w' b 1 (.int .i64 ((m.fl b).1.length : Int))
    rw [Hfl.out] at k2
    refine ⟨rfl, _, ⟨⟨_, _, _, _, _, RV.file_write (v := v) (v' := v) HT.out k3 (hc.wide (fun _ _ h => Or.inl h)) FW (k2.at hc (fun g hg e => ?_)) (fun g hg => Or.inl hg) (Nat.le_refl _)⟩, HFn.out⟩, X.trans (hc.ext (fun k _ e => by rw [e]; exact tag_ne HT.out (by intro h; cases h)) (fun k hk => if_pos hk))⟩
    have := k3 g hg
    rw [e, HT.out] at this
    cases this
end Go.Proofs.YtdbhgkbmbbjpdaaGreatDoor.Shf
