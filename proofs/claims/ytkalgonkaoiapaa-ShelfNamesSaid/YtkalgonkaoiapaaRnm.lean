/- Shelves of which a name becomes another file's, as pure data. -/
import Derived.Test.YtkalgonkaoiapaaKpm
namespace Go.Proofs.Ytkalgonkaoiapaa.Shf

theorem Rep.fileLt {w : World} {T : Nat → Tag} {q : Nat} {m : M} (R : Rep w T q m) {name : S} {b : Nat} (h : get m.now name = some b) : b < w.heap.size := by
  have hT := R.fileOf h
  obtain ⟨⟨nv, sv, mv, nn, ns, RV⟩, _⟩ := R
  exact RV.old b (tag_ne hT (by intro h; cases h))
theorem st_rename (room : Int) (now safe : List (S × Nat)) (moves : List Mv) (fl : Nat → S × Nat) (named gone done : Nat) {fr to : S} {b c : Nat} (hok : nameOk to = true) (hf : get now fr = some c) (ht : get now to = some b) (hne : fr ≠ to) :
    (st room now safe moves fl named gone done).rename fr to = st room (Mv.on ⟨fr, to, some c⟩ now) safe (moves ++ [⟨fr, to, some c⟩]) fl (named - (fl b).1.length) (gone + (fl b).1.length) (done + 1) := by
  unfold M.rename
  rw [if_neg (by rw [hok]; decide), (st_onF room now safe moves fl named gone done hf).1]
  show (if fr = to then _ else _) = _
  rw [if_neg hne]
  show (M.lose (st room now safe moves fl named gone (done + 1)) to).mv _ = _
  unfold M.lose
  rw [show (st room now safe moves fl named gone (done + 1)).now = now from rfl, ht]
  rfl
theorem st_none (room : Int) (now safe : List (S × Nat)) (moves : List Mv) (fl : Nat → S × Nat) (named gone done : Nat) {name : S} (hg : get now name = none) : (st room now safe moves fl named gone done).readE name = 2 := by
  unfold M.readE
  rw [show (st room now safe moves fl named gone done).now = now from rfl, show (st room now safe moves fl named gone done).fallen = false from rfl, hg]
  rfl
def G4 (b : Nat) (p : S) : Nat → S × Nat := upd (upd (F1 b) b (p, 0)) b (p, p.length)
def R5 (b c : Nat) (p : S) : M := st 1000 [([97], b), ([98], c)] [([97], b)] [⟨[], [98], some c⟩] (upd (G4 b p) c ([], 0)) p.length 0 5
theorem r5 (b c : Nat) (p : S) : (K4 1000 b p).create [98] c = R5 b c p := (st_create 1000 [([97], b)] [([97], b)] [] (G4 b p) p.length 0 4 (name := [98]) (by decide) rfl c).1
def R6 (b c : Nat) (p q : S) : M := st 1000 [([97], b), ([98], c)] [([97], b)] [⟨[], [98], some c⟩] (upd (upd (G4 b p) c ([], 0)) c (q, 0)) (p.length + q.length) 0 6
theorem r6 (b c : Nat) (p q : S) (h : p.length + q.length ≤ 1000) : (R5 b c p).append [98] q = R6 b c p q := by
  have := (st_append 1000 [([97], b), ([98], c)] [([97], b)] [⟨[], [98], some c⟩] (upd (G4 b p) c ([], 0)) p.length 0 5 (name := [98]) (p := q) (b := c) rfl (by simp; omega)).1
  have e : upd (G4 b p) c ([], 0) c = ([], 0) := by simp [upd]
  rw [e] at this
  exact this
def R7 (b c : Nat) (p q : S) : M := st 1000 [([97], b), ([98], c)] [([97], b)] [⟨[], [98], some c⟩] (upd (upd (upd (G4 b p) c ([], 0)) c (q, 0)) c (q, q.length)) (p.length + q.length) 0 7
theorem r7 (b c : Nat) (p q : S) : (R6 b c p q).sync [98] = R7 b c p q := by
  have h := st_sync 1000 [([97], b), ([98], c)] [([97], b)] [⟨[], [98], some c⟩] (upd (upd (G4 b p) c ([], 0)) c (q, 0)) (p.length + q.length) 0 6 (name := [98]) (b := c) rfl
  have e : upd (upd (G4 b p) c ([], 0)) c (q, 0) c = (q, 0) := by simp [upd]
  rw [e] at h
  exact h
def H7 (b c : Nat) (p q : S) : Nat → S × Nat := upd (upd (upd (G4 b p) c ([], 0)) c (q, 0)) c (q, q.length)
def R8 (b c : Nat) (p q : S) : M := st 1000 [([97], c)] [([97], b)] [⟨[], [98], some c⟩, ⟨[98], [97], some c⟩] (H7 b c p q) (p.length + q.length - (H7 b c p q b).1.length) (0 + (H7 b c p q b).1.length) 8
theorem r8 (b c : Nat) (p q : S) : (R7 b c p q).rename [98] [97] = R8 b c p q :=
  st_rename 1000 [([97], b), ([98], c)] [([97], b)] [⟨[], [98], some c⟩] (H7 b c p q) (p.length + q.length) 0 7 (fr := [98]) (to := [97]) (b := b) (c := c) (by decide) rfl rfl (by decide)
theorem h7 {b c : Nat} (h : c ≠ b) (p q : S) : H7 b c p q b = (p, p.length) ∧ H7 b c p q c = (q, q.length) := by
  have : ¬ b = c := fun e => h e.symm
  constructor
  · simp [H7, G4, upd, this]
  · simp [H7, upd]
theorem left0 (p : S) : left (p, p.length) 0 = p.length := by simp [left]
/-- What stands in it behind a fall. -/
theorem r9 {b c : Nat} (h : c ≠ b) (p q : S) (k : Nat) : ((R8 b c p q).fall (k : Int) 0).readE [97] = 0 ∧ ((R8 b c p q).fall (k : Int) 0).readP [97] = (if 2 ≤ k then q else p) ∧ ((R8 b c p q).fall (k : Int) 0).readE [98] = if k = 1 then 0 else 2 := by
  obtain ⟨hb, hc⟩ := h7 h p q
  unfold R8
  rw [st_fall]
  show (st 1000 (ages [([97], b)] (List.take (min (k : Int).toNat 2) [⟨[], [98], some c⟩, ⟨[98], [97], some c⟩])) _ _ _ _ _ _).readE [97] = 0 ∧ _
  generalize (p.length + q.length - (H7 b c p q b).1.length) = x
  rcases (by omega : k = 0 ∨ k = 1 ∨ 2 ≤ k) with e | e | e
  · subst e
    refine ⟨rfl, ?_, rfl⟩
    show (fallF (H7 b c p q) [([97], b)] 0 b).1 = p
    unfold fallF
    rw [if_pos (by simp), hb, left0, List.take_length]
  · subst e
    refine ⟨rfl, ?_, rfl⟩
    show (fallF (H7 b c p q) [([97], b), ([98], c)] 0 b).1 = p
    unfold fallF
    rw [if_pos (by simp), hb, left0, List.take_length]
  · have e2 : min (k : Int).toNat 2 = 2 := by omega
    have e1 : min (k : Int).toNat ([⟨[], [98], some c⟩, ⟨[98], [97], some c⟩] : List Mv).length = 2 := by simp; omega
    rw [e1, e2, if_pos e, if_neg (by omega)]
    refine ⟨rfl, ?_, rfl⟩
    show (fallF (H7 b c p q) [([97], c)] 0 c).1 = q
    unfold fallF
    rw [if_pos (by simp), hc, left0, List.take_length]
end Go.Proofs.Ytkalgonkaoiapaa.Shf
