/- The document's example, as pure data. -/
import Derived.Test.YtkalgonkaoiapaaShy
import Derived.Test.YtkalgonkaoiapaaShz
namespace Go.Proofs.Ytkalgonkaoiapaa.Shf

/-- A shelf that stands, and isn't armed. -/
def st (room : Int) (now safe : List (S × Nat)) (moves : List Mv) (fl : Nat → S × Nat) (named gone done : Nat) : M := ⟨room, now, safe, moves, fl, named, gone, done, false, 0, false⟩
def upd (fl : Nat → S × Nat) (b : Nat) (x : S × Nat) : Nat → S × Nat := fun c => if c = b then x else fl c
section
variable (room : Int) (now safe : List (S × Nat)) (moves : List Mv) (fl : Nat → S × Nat) (named gone done : Nat)
theorem st_act : (st room now safe moves fl named gone done).act = st room now safe moves fl named gone (done + 1) := rfl
theorem st_actE : (st room now safe moves fl named gone done).actE = 0 := rfl
theorem st_create {name : S} (h : nameOk name = true) (hg : get now name = none) (b : Nat) :
    (st room now safe moves fl named gone done).create name b = st room (Mv.on ⟨[], name, some b⟩ now) safe (moves ++ [⟨[], name, some b⟩]) (upd fl b ([], 0)) named gone (done + 1) ∧ (st room now safe moves fl named gone done).createE name = 0 := by
  unfold M.create M.createE
  rw [if_neg (by rw [h]; decide), if_neg (by rw [st_actE]; decide), if_neg (by rw [h]; decide), if_neg (by rw [st_actE]; decide), show (st room now safe moves fl named gone done).now = now from rfl, hg]
  exact ⟨rfl, rfl⟩
theorem st_onF {name : S} {b : Nat} (hg : get now name = some b) : (st room now safe moves fl named gone done).onF name = some b ∧ (st room now safe moves fl named gone done).onE name = 0 := by
  unfold M.onF M.onE
  rw [if_neg (by rw [st_actE]; decide), if_neg (by rw [st_actE]; decide), show (st room now safe moves fl named gone done).now = now from rfl, hg]
  exact ⟨rfl, rfl⟩
theorem st_append {name p : S} {b : Nat} (hg : get now name = some b) (hr : ¬ ((named : Int) + gone + p.length > room)) :
    (st room now safe moves fl named gone done).append name p = st room now safe moves (upd fl b ((fl b).1 ++ p, (fl b).2)) (named + p.length) gone (done + 1) ∧ (st room now safe moves fl named gone done).appendE name p = 0 := by
  unfold M.append M.appendE
  rw [(st_onF room now safe moves fl named gone done hg).1]
  exact ⟨if_neg hr, if_neg hr⟩
theorem st_sync {name : S} {b : Nat} (hg : get now name = some b) : (st room now safe moves fl named gone done).sync name = st room now safe moves (upd fl b ((fl b).1, (fl b).1.length)) named gone (done + 1) := by
  unfold M.sync
  rw [(st_onF room now safe moves fl named gone done hg).1]
  rfl
theorem st_names : (st room now safe moves fl named gone done).names = st room now (ages safe moves) [] fl named 0 (done + 1) := by
  unfold M.names
  rw [if_neg (by rw [st_actE]; decide)]
  rfl
theorem st_fall (a b : Int) : (st room now safe moves fl named gone done).fall a b = st room (ages safe (moves.take (min a.toNat moves.length))) (ages safe (moves.take (min a.toNat moves.length))) [] (fallF fl (ages safe (moves.take (min a.toNat moves.length))) b) (tot (fallF fl (ages safe (moves.take (min a.toNat moves.length))) b) (ages safe (moves.take (min a.toNat moves.length)))) 0 done := rfl
theorem st_read {name : S} {b : Nat} (hg : get now name = some b) : (st room now safe moves fl named gone done).readE name = 0 ∧ (st room now safe moves fl named gone done).readP name = (fl b).1 := by
  unfold M.readE M.readP
  rw [show (st room now safe moves fl named gone done).now = now from rfl, show (st room now safe moves fl named gone done).fallen = false from rfl, hg]
  exact ⟨rfl, rfl⟩
end
theorem new_st (room : Int) : M.new room = st room [] [] [] (fun _ => ([], 0)) 0 0 0 := rfl
theorem on_new (name : S) (b : Nat) : Mv.on ⟨[], name, some b⟩ [] = [(name, b)] := rfl
/-- The example's states. -/
def X1 (b : Nat) : M := st 100 [([97], b)] [] [⟨[], [97], some b⟩] (upd (fun _ => ([], 0)) b ([], 0)) 0 0 1
theorem x1 (b : Nat) : (M.new 100).create [97] b = X1 b ∧ (M.new 100).createE [97] = 0 := st_create 100 [] [] [] (fun _ => ([], 0)) 0 0 0 (name := [97]) (by decide) rfl b
def X2 (b : Nat) : M := st 100 [([97], b)] [] [⟨[], [97], some b⟩] (upd (upd (fun _ => ([], 0)) b ([], 0)) b ([120, 121], 0)) 2 0 2
theorem x2 (b : Nat) : (X1 b).append [97] [120, 121] = X2 b ∧ (X1 b).appendE [97] [120, 121] = 0 := by
  have := st_append 100 [([97], b)] [] [⟨[], [97], some b⟩] (upd (fun _ => ([], 0)) b ([], 0)) 0 0 1 (name := [97]) (p := [120, 121]) (b := b) rfl (by decide)
  simpa [upd, X1, X2] using this
def X3 (b : Nat) : M := st 100 [([97], b)] [] [⟨[], [97], some b⟩] (upd (upd (upd (fun _ => ([], 0)) b ([], 0)) b ([120, 121], 0)) b ([120, 121], 2)) 2 0 3
theorem x3 (b : Nat) : (X2 b).sync [97] = X3 b ∧ (X2 b).onE [97] = 0 := by
  have h1 := st_sync 100 [([97], b)] [] [⟨[], [97], some b⟩] (upd (upd (fun _ => ([], 0)) b ([], 0)) b ([120, 121], 0)) 2 0 2 (name := [97]) (b := b) rfl
  have h2 := (st_onF 100 [([97], b)] [] [⟨[], [97], some b⟩] (upd (upd (fun _ => ([], 0)) b ([], 0)) b ([120, 121], 0)) 2 0 2 (name := [97]) (b := b) rfl).2
  refine ⟨?_, h2⟩
  simpa [upd, X2, X3] using h1
def X4 (b : Nat) : M := st 100 [] [] [] (upd (upd (upd (fun _ => ([], 0)) b ([], 0)) b ([120, 121], 0)) b ([120, 121], 2)) 0 0 3
theorem x4 (b : Nat) : (X3 b).fall 0 0 = X4 b ∧ (X4 b).list = [] := ⟨rfl, by simp [M.list, X4, st]⟩
def X5 (b c : Nat) : M := st 100 [([98], c)] [] [⟨[], [98], some c⟩] (upd (upd (upd (upd (fun _ => ([], 0)) b ([], 0)) b ([120, 121], 0)) b ([120, 121], 2)) c ([], 0)) 0 0 4
theorem x5 (b c : Nat) : (X4 b).create [98] c = X5 b c ∧ (X4 b).createE [98] = 0 := st_create 100 [] [] [] _ 0 0 3 (name := [98]) (by decide) rfl c
def X6 (b c : Nat) : M := st 100 [([98], c)] [] [⟨[], [98], some c⟩] (upd (upd (upd (upd (upd (fun _ => ([], 0)) b ([], 0)) b ([120, 121], 0)) b ([120, 121], 2)) c ([], 0)) c ([120, 121], 0)) 2 0 5
theorem x6 (b c : Nat) : (X5 b c).append [98] [120, 121] = X6 b c ∧ (X5 b c).appendE [98] [120, 121] = 0 := by
  have := st_append 100 [([98], c)] [] [⟨[], [98], some c⟩] (upd (upd (upd (upd (fun _ => ([], 0)) b ([], 0)) b ([120, 121], 0)) b ([120, 121], 2)) c ([], 0)) 0 0 4 (name := [98]) (p := [120, 121]) (b := c) rfl (by decide)
  refine ⟨?_, this.2⟩
  have h := this.1
  have e : upd (upd (upd (upd (fun _ => (([], 0) : S × Nat)) b ([], 0)) b ([120, 121], 0)) b ([120, 121], 2)) c ([], 0) c = ([], 0) := by simp [upd]
  rw [e] at h
  exact h
def X7 (b c : Nat) : M := st 100 [([98], c)] [] [⟨[], [98], some c⟩] (upd (upd (upd (upd (upd (upd (fun _ => ([], 0)) b ([], 0)) b ([120, 121], 0)) b ([120, 121], 2)) c ([], 0)) c ([120, 121], 0)) c ([120, 121], 2)) 2 0 6
theorem x7 (b c : Nat) : (X6 b c).sync [98] = X7 b c := by
  have h := st_sync 100 [([98], c)] [] [⟨[], [98], some c⟩] (upd (upd (upd (upd (upd (fun _ => ([], 0)) b ([], 0)) b ([120, 121], 0)) b ([120, 121], 2)) c ([], 0)) c ([120, 121], 0)) 2 0 5 (name := [98]) (b := c) rfl
  have e : upd (upd (upd (upd (upd (fun _ => (([], 0) : S × Nat)) b ([], 0)) b ([120, 121], 0)) b ([120, 121], 2)) c ([], 0)) c ([120, 121], 0) c = ([120, 121], 0) := by simp [upd]
  rw [e] at h
  exact h
theorem x9 (b c : Nat) : (((X7 b c).names).fall 0 0).readE [98] = 0 ∧ (((X7 b c).names).fall 0 0).readP [98] = [120, 121] := by
  unfold X7
  rw [st_names, st_fall]
  have h := st_read 100 [([98], c)] [([98], c)] [] (fallF (upd (upd (upd (upd (upd (upd (fun _ => ([], 0)) b ([], 0)) b ([120, 121], 0)) b ([120, 121], 2)) c ([], 0)) c ([120, 121], 0)) c ([120, 121], 2)) [([98], c)] 0)
    (tot (fallF (upd (upd (upd (upd (upd (upd (fun _ => ([], 0)) b ([], 0)) b ([120, 121], 0)) b ([120, 121], 2)) c ([], 0)) c ([120, 121], 0)) c ([120, 121], 2)) [([98], c)] 0) [([98], c)]) 0 7 (name := [98]) (b := c) rfl
  refine ⟨h.1, h.2.trans ?_⟩
  simp [fallF, upd, left]
end Go.Proofs.Ytkalgonkaoiapaa.Shf
