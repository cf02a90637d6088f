/- A whole shelf in memory, its blocks told apart by tags. -/
import Derived.Test.YtkalgonkaoiapaaShd
import Derived.Test.YtkalgonkaoiapaaShe
import Derived.Test.YtkalgonkaoiapaaShn
import Derived.Test.YtkalgonkaoiapaaShl
namespace Go.Proofs.Ytkalgonkaoiapaa.Shf
open Go.ChangeShapes Go.WideShapes Go.ChangeAt Go.RowKit

inductive Tag
  | none | shelf | names | safe | moves | file
  | row (b : Nat)
structure RepV (w : World) (T : Nat → Tag) (q : Nat) (m : M) (nv sv mv : Value) (nn ns : Nat) : Prop where
  sh : ShAt w q m nv sv mv
  tq : T q = .shelf
  nm : NMv w nv nn m.now
  tn : ∀ b, mapBlock nv = some b → T b = .names
  sf : NMv w sv ns m.safe
  ts : ∀ b, mapBlock sv = some b → T b = .safe
  mo : MvAt w mv m.moves
  tm : ∀ b, mv.ownBlock = some b → T b = .moves
  fl : ∀ b, T b = .file → ∃ v, FlAt w b v (m.fl b).2 ∧ Own w v (m.fl b).1 ∧ (∀ g, v.ownBlock = some g → T g = .row b) ∧ (m.fl b).2 ≤ (m.fl b).1.length
  old : ∀ b, T b ≠ .none → b < w.heap.size
  lnow : ∀ p ∈ m.now, T p.2 = .file
  lsafe : ∀ p ∈ m.safe, T p.2 = .file
  lmov : ∀ v ∈ m.moves, (∀ b, v.f = some b → T b = .file) ∧ v.fr.length ≤ 1000 ∧ v.to.length ≤ 1000
  bnn : nn ≤ m.done
  bns : ns + m.moves.length ≤ m.done
/-- What holds of any shelf. -/
structure Fine (m : M) : Prop where
  ahead : m.armed = true → 0 ≤ m.ahead ∧ m.ahead < 9223372036854775808
  named : m.named = tot m.fl m.now
  good : ∀ k, k ≤ m.moves.length → Good (ages m.safe (m.moves.take k))
  now : m.now = ages m.safe m.moves
  room : m.room ≤ 1000000000
  bytes : m.named + m.gone ≤ 1000000000
  lost : ∃ lost, LostIs m lost
def Rep (w : World) (T : Nat → Tag) (q : Nat) (m : M) : Prop := (∃ nv sv mv nn ns, RepV w T q m nv sv mv nn ns) ∧ Fine m
structure Ext (w : World) (T : Nat → Tag) (w' : World) (T' : Nat → Tag) : Prop where
  os : w'.os = w.os
  tape : w'.tape = w.tape
  output : w'.output = w.output
  size : w.heap.size ≤ w'.heap.size
  tags : ∀ b, b < w.heap.size → T' b = T b
  block : ∀ b, b < w.heap.size → T b = .none → w'.heap[b]? = w.heap[b]?
theorem Ext.refl (w : World) (T : Nat → Tag) : Ext w T w T := ⟨rfl, rfl, rfl, Nat.le_refl _, fun _ _ => rfl, fun _ _ _ => rfl⟩
theorem Ext.trans {a b c : World} {T U V : Nat → Tag} (h : Ext a T b U) (k : Ext b U c V) : Ext a T c V :=
  ⟨k.os.trans h.os, k.tape.trans h.tape, k.output.trans h.output, Nat.le_trans h.size k.size, fun i hi => (k.tags i (Nat.lt_of_lt_of_le hi h.size)).trans (h.tags i hi), fun i hi hn => (k.block i (Nat.lt_of_lt_of_le hi h.size) ((h.tags i hi).trans hn)).trans (h.block i hi hn)⟩
theorem Chg.ext {w w' : World} {R : Nat → Prop} {T T' : Nat → Tag} (h : Chg w w' R) (hR : ∀ k, k < w.heap.size → R k → T k ≠ .none) (hT : ∀ b, b < w.heap.size → T' b = T b) : Ext w T w' T' :=
  ⟨h.os, h.tape, h.output, h.size, hT, fun b hb hn => h.block b hb (fun hr => hR b hb hr hn)⟩
theorem Ext.below {w w' : World} {T T' : Nat → Tag} {B : Nat} (h : Ext w T w' T') (hB : B ≤ w.heap.size) (hT : ∀ k, T k ≠ .none → B ≤ k) : Below B w w' :=
  ⟨h.os, h.tape, h.output, h.size, fun k hk => h.block k (Nat.lt_of_lt_of_le hk hB) (by
    cases e : T k with
    | none => rfl
    | _ => exact absurd (hT k (by rw [e]; intro h; cases h)) (by omega))⟩
theorem Fine.act {m : M} (h : Fine m) : Fine m.act := by
  unfold M.act
  split
  · exact h
  · split
    · exact ⟨h.ahead, h.named, h.good, h.now, h.room, h.bytes, h.lost.imp fun _ k => ⟨k.nd, k.out, k.all, k.some, k.sum⟩⟩
    · rename_i h1
      split
      · rename_i h2
        refine ⟨fun _ => ?_, h.named, h.good, h.now, h.room, h.bytes, h.lost.imp fun _ k => ⟨k.nd, k.out, k.all, k.some, k.sum⟩⟩
        have := h.ahead h2
        have h3 : m.ahead ≠ 0 := fun e => h1 ⟨h2, e⟩
        show 0 ≤ m.ahead - 1 ∧ m.ahead - 1 < _
        omega
      · exact ⟨h.ahead, h.named, h.good, h.now, h.room, h.bytes, h.lost.imp fun _ k => ⟨k.nd, k.out, k.all, k.some, k.sum⟩⟩
theorem act_now (m : M) : m.act.now = m.now ∧ m.act.safe = m.safe ∧ m.act.moves = m.moves ∧ m.act.fl = m.fl ∧ m.act.named = m.named ∧ m.act.gone = m.gone ∧ m.act.room = m.room := by
  unfold M.act; split
  · simp
  · split
    · simp
    · split <;> simp
theorem act_done (m : M) : m.done ≤ m.act.done ∧ m.act.done ≤ m.done + 1 ∧ (m.actE = 0 → m.act.done = m.done + 1) := by
  unfold M.act M.actE; split
  · rename_i h; simp [h]
  · rename_i h
    split
    · rename_i h1; simp [h1]
    · split <;> simp
theorem actE_cases (m : M) : m.actE = 0 ∨ m.actE = 7 := by unfold M.actE; split <;> simp
/-- Behind a step that writes the shelf's own block alone. -/
theorem RepV.sh_step {w w' : World} {T : Nat → Tag} {q : Nat} {m m' : M} {nv sv mv : Value} {nn ns : Nat} (R : RepV w T q m nv sv mv nn ns) (hc : Chg w w' (fun k => k = q)) (hS : ShAt w' q m' nv sv mv)
    (e : m'.now = m.now ∧ m'.safe = m.safe ∧ m'.moves = m.moves ∧ m'.fl = m.fl) (hd : m.done ≤ m'.done) : RepV w' T q m' nv sv mv nn ns := by
  obtain ⟨e1, e2, e3, e4⟩ := e
  have ne : ∀ {b}, T b ≠ .shelf → ¬ b = q := fun h e => h (by rw [e]; exact R.tq)
  refine ⟨hS, R.tq, ?_, R.tn, ?_, R.ts, ?_, R.tm, ?_, fun b hb => Nat.lt_of_lt_of_le (R.old b hb) hc.size, ?_, ?_, ?_, Nat.le_trans R.bnn hd, ?_⟩
  · rw [e1]; exact R.nm.at hc (fun b hb => ne (by rw [R.tn b hb]; intro h; cases h))
  · rw [e2]; exact R.sf.at hc (fun b hb => ne (by rw [R.ts b hb]; intro h; cases h))
  · rw [e3]; exact R.mo.at hc (fun b hb => ne (by rw [R.tm b hb]; intro h; cases h))
  · intro b hb
    obtain ⟨v, h1, h2, h3, h4⟩ := R.fl b hb
    rw [e4]
    exact ⟨v, h1.at hc (ne (by rw [hb]; intro h; cases h)), h2.at hc (fun g hg => ne (by rw [h3 g hg]; intro h; cases h)), h3, h4⟩
  · rw [e1]; exact R.lnow
  · rw [e2]; exact R.lsafe
  · rw [e3]; exact R.lmov
  · rw [e3]; exact Nat.le_trans R.bns hd
/-- Behind a step that writes nothing that is the shelf's. -/
theorem RepV.far {w w' : World} {T : Nat → Tag} {q : Nat} {m : M} {nv sv mv : Value} {nn ns : Nat} (R : RepV w T q m nv sv mv nn ns) {P : Nat → Prop} (hc : Chg w w' P) (hP : ∀ b, T b ≠ .none → ¬ P b) : RepV w' T q m nv sv mv nn ns := by
  have ne : ∀ {b}, T b ≠ .none → ¬ P b := fun h => hP _ h
  refine ⟨R.sh.at hc (ne (by rw [R.tq]; intro h; cases h)), R.tq, R.nm.at hc (fun b hb => ne (by rw [R.tn b hb]; intro h; cases h)), R.tn, R.sf.at hc (fun b hb => ne (by rw [R.ts b hb]; intro h; cases h)), R.ts, R.mo.at hc (fun b hb => ne (by rw [R.tm b hb]; intro h; cases h)), R.tm, ?_,
    fun b hb => Nat.lt_of_lt_of_le (R.old b hb) hc.size, R.lnow, R.lsafe, R.lmov, R.bnn, R.bns⟩
  intro b hb
  obtain ⟨v, h1, h2, h3, h4⟩ := R.fl b hb
  exact ⟨v, h1.at hc (ne (by rw [hb]; intro h; cases h)), h2.at hc (fun g hg => ne (by rw [h3 g hg]; intro h; cases h)), h3, h4⟩
theorem Rep.far {w w' : World} {T : Nat → Tag} {q : Nat} {m : M} (R : Rep w T q m) {P : Nat → Prop} (hc : Chg w w' P) (hP : ∀ b, T b ≠ .none → ¬ P b) : Rep w' T q m := by
  obtain ⟨⟨nv, sv, mv, nn, ns, R⟩, F⟩ := R
  exact ⟨⟨nv, sv, mv, nn, ns, R.far hc hP⟩, F⟩
/-- Behind a new file's block. -/
theorem RepV.file_step {w : World} {T : Nat → Tag} {q : Nat} {m : M} {nv sv mv : Value} {nn ns : Nat} (R : RepV w T q m nv sv mv nn ns) :
    RepV (w.alloc (.cells #[.slice none 0 0, .int .i64 0] 65)) (fun b => if b = w.heap.size then .file else T b) q {m with fl := fun c => if c = w.heap.size then ([], 0) else m.fl c} nv sv mv nn ns := by
  have hc := chg_alloc w (.cells #[.slice none 0 0, .int .i64 0] 65) (fun _ => False)
  have lt : ∀ {b t}, T b = t → t ≠ .none → b ≠ w.heap.size := fun {b t} h ht e => by
    have := R.old b (by rw [h]; exact ht); omega
  have keep : ∀ {b t}, T b = t → t ≠ .none → (if b = w.heap.size then Tag.file else T b) = t := fun {b t} h ht => by rw [if_neg (lt h ht), h]
  refine ⟨R.sh.at hc (fun h => h), keep R.tq (by intro h; cases h), R.nm.at hc (fun _ _ h => h), fun b hb => keep (R.tn b hb) (by intro h; cases h), R.sf.at hc (fun _ _ h => h), fun b hb => keep (R.ts b hb) (by intro h; cases h), R.mo.at hc (fun _ _ h => h), fun b hb => keep (R.tm b hb) (by intro h; cases h), ?_, ?_,
    fun p hp => keep (R.lnow p hp) (by intro h; cases h), fun p hp => keep (R.lsafe p hp) (by intro h; cases h), fun v hv => ⟨fun b hb => keep ((R.lmov v hv).1 b hb) (by intro h; cases h), (R.lmov v hv).2⟩, R.bnn, R.bns⟩
  · intro b hb
    by_cases e : b = w.heap.size
    · subst e
      refine ⟨.slice none 0 0, ?_, ?_, ?_, ?_⟩
      · simp only [if_true]; exact alloc1 w _
      · simp only [if_true]; exact Or.inl ⟨rfl, rfl⟩
      · intro g hg; cases hg
      · simp
    · simp only [if_neg e] at hb ⊢
      obtain ⟨v, h1, h2, h3, h4⟩ := R.fl b hb
      exact ⟨v, h1.at hc (fun h => h), h2.at hc (fun _ _ h => h), fun g hg => keep (h3 g hg) (by intro h; cases h), h4⟩
  · intro b hb
    by_cases e : b = w.heap.size
    · subst e; simp
    · simp only [if_neg e] at hb
      have := R.old b hb
      simp; omega
/-- Behind what is done to names. -/
theorem RepV.do_step {w w' : World} {T : Nat → Tag} {q : Nat} {m : M} {nv sv mv mv' : Value} {nn ns nb : Nat} {v : Mv} (R : RepV w T q m nv sv mv nn ns) (hS : ShAt w' q {m with now := v.on m.now, moves := m.moves ++ [v]} (.map (some nb)) sv mv') (hN : NM w' nb (nn + 1) (v.on m.now)) (hM : MvAt w' mv' (m.moves ++ [v]))
    (h1 : mapBlock nv = some nb ∨ w.heap.size ≤ nb) (h2 : ∀ b, mv'.ownBlock = some b → mv.ownBlock = some b ∨ w.heap.size ≤ b) (h3 : mv'.ownBlock ≠ some nb) (hc : Chg w w' (fun k => k = q ∨ mapBlock nv = some k ∨ mv.ownBlock = some k))
    (hf : ∀ b, v.f = some b → T b = .file) (hl : v.fr.length ≤ 1000 ∧ v.to.length ≤ 1000) (hbn : nn < m.done) (hbs : ns + m.moves.length < m.done) :
    RepV w' (fun b => if b < w.heap.size then T b else if b = nb then .names else if mv'.ownBlock = some b then .moves else .none) q {m with now := v.on m.now, moves := m.moves ++ [v]} (.map (some nb)) sv mv' (nn + 1) ns := by
  have keep : ∀ {b t}, T b = t → t ≠ .none → (if b < w.heap.size then T b else if b = nb then Tag.names else if mv'.ownBlock = some b then .moves else .none) = t := fun {b t} h ht => by
    rw [if_pos (R.old b (by rw [h]; exact ht)), h]
  have ne : ∀ {b}, T b ≠ .shelf → T b ≠ .names → T b ≠ .moves → ¬ (b = q ∨ mapBlock nv = some b ∨ mv.ownBlock = some b) := fun k1 k2 k3 h => by
    rcases h with h | h | h
    · exact k1 (by rw [h]; exact R.tq)
    · exact k2 (R.tn _ h)
    · exact k3 (R.tm _ h)
  have hnb : nb < w'.heap.size := hN.lt
  refine ⟨hS, keep R.tq (by intro h; cases h), Or.inr ⟨nb, rfl, hN⟩, ?_, R.sf.at hc (fun b hb => ne (by rw [R.ts b hb]; intro h; cases h) (by rw [R.ts b hb]; intro h; cases h) (by rw [R.ts b hb]; intro h; cases h)), fun b hb => keep (R.ts b hb) (by intro h; cases h), hM, ?_, ?_, ?_, ?_,
    fun p hp => keep (R.lsafe p hp) (by intro h; cases h), ?_, hbn, by simp; omega⟩
  · intro b hb
    obtain rfl : nb = b := by simpa [mapBlock] using hb
    rcases h1 with h | h
    · exact keep (R.tn nb h) (by intro h; cases h)
    · rw [if_neg (by omega), if_pos rfl]
  · intro b hb
    rcases h2 b hb with h | h
    · exact keep (R.tm b h) (by intro h; cases h)
    · rw [if_neg (by omega), if_neg (by intro e; subst e; exact h3 hb), if_pos hb]
  · intro b hb
    have hb' : T b = .file := by
      by_cases e : b < w.heap.size
      · rwa [if_pos e] at hb
      · rw [if_neg e] at hb
        split at hb
        · cases hb
        · split at hb <;> cases hb
    obtain ⟨x, k1, k2, k3, k4⟩ := R.fl b hb'
    exact ⟨x, k1.at hc (ne (by rw [hb']; intro h; cases h) (by rw [hb']; intro h; cases h) (by rw [hb']; intro h; cases h)), k2.at hc (fun g hg => ne (by rw [k3 g hg]; intro h; cases h) (by rw [k3 g hg]; intro h; cases h) (by rw [k3 g hg]; intro h; cases h)), fun g hg => keep (k3 g hg) (by intro h; cases h), k4⟩
  · intro b hb
    by_cases e : b < w.heap.size
    · exact Nat.lt_of_lt_of_le e hc.size
    · rw [if_neg e] at hb
      by_cases e1 : b = nb
      · rw [e1]; exact hnb
      · rw [if_neg e1] at hb
        by_cases e2 : mv'.ownBlock = some b
        · exact hM.lt b e2
        · rw [if_neg e2] at hb; exact absurd rfl hb
  · intro p hp
    refine keep ?_ (by intro h; cases h)
    unfold Mv.on at hp
    cases hvf : v.f with
    | none => rw [hvf] at hp; exact R.lnow p (mem_wo.1 hp).1
    | some c =>
      rw [hvf] at hp
      rcases List.mem_append.1 hp with hp | hp
      · exact R.lnow p (mem_wo.1 (mem_wo.1 hp).1).1
      · simp at hp; subst hp; exact hf c hvf
  · intro x hx
    rcases List.mem_append.1 hx with hx | hx
    · exact ⟨fun b hb => keep ((R.lmov x hx).1 b hb) (by intro h; cases h), (R.lmov x hx).2⟩
    · simp at hx; subst hx
      exact ⟨fun b hb => keep (hf b hb) (by intro h; cases h), hl⟩
end Go.Proofs.Ytkalgonkaoiapaa.Shf
