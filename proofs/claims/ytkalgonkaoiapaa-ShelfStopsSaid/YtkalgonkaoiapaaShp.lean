/- What a shelf's acts do, as pure data. -/
import Derived.Test.YtkalgonkaoiapaaShr
namespace Go.Proofs.Ytkalgonkaoiapaa.Shf

def M.mv (m : M) (v : Mv) : M := {m with now := v.on m.now, moves := m.moves ++ [v]}
def M.file (m : M) (b : Nat) (x : S × Nat) : M := {m with fl := fun c => if c = b then x else m.fl c}
def M.create (m : M) (name : S) (b : Nat) : M :=
  if nameOk name = false then m else if m.actE = 7 then m.act else match get m.now name with
    | some _ => m.act
    | none => (m.act.file b ([], 0)).mv ⟨[], name, some b⟩
def M.createE (m : M) (name : S) : Nat := if nameOk name = false then 1 else if m.actE = 7 then 7 else match get m.now name with | some _ => 9 | none => 0
def M.onE (m : M) (name : S) : Nat := if m.actE = 7 then 7 else match get m.now name with | some _ => 0 | none => 2
def M.onF (m : M) (name : S) : Option Nat := if m.actE = 7 then none else get m.now name
def M.append (m : M) (name p : S) : M := match m.onF name with
  | none => m.act
  | some b => if (m.named + m.gone + p.length : Int) > m.room then m.act else {m.act with fl := fun c => if c = b then ((m.fl b).1 ++ p, (m.fl b).2) else m.fl c, named := m.named + p.length}
def M.appendE (m : M) (name p : S) : Nat := match m.onF name with
  | none => m.onE name
  | some _ => if (m.named + m.gone + p.length : Int) > m.room then 3 else 0
def M.sync (m : M) (name : S) : M := match m.onF name with
  | none => m.act
  | some b => m.act.file b ((m.fl b).1, (m.fl b).1.length)
def M.names (m : M) : M := if m.actE = 7 then m.act else {m.act with safe := ages m.safe m.moves, moves := [], gone := 0}
def M.rename (m : M) (fr to : S) : M := if nameOk to = false then m else match m.onF fr with
  | none => m.act
  | some b => if fr = to then m.act else (m.act.lose to).mv ⟨fr, to, some b⟩
def M.renameE (m : M) (fr to : S) : Nat := if nameOk to = false then 1 else m.onE fr
def M.delete (m : M) (name : S) : M := match m.onF name with
  | none => m.act
  | some _ => (m.act.lose name).mv ⟨name, [], none⟩
def M.cut (m : M) (name : S) (n : Int) : M := match m.onF name with
  | none => m.act
  | some b => if n < 0 ∨ n > (m.fl b).1.length then m.act else {m.act with fl := fun c => if c = b then ((m.fl b).1.take n.toNat, n.toNat) else m.fl c, named := m.named - ((m.fl b).1.length - n.toNat)}
def M.cutE (m : M) (name : S) (n : Int) : Nat := match m.onF name with
  | none => m.onE name
  | some b => if n < 0 ∨ n > (m.fl b).1.length then 1 else 0
/-- How much of a file stays behind a fall. -/
def left (x : S × Nat) (bytes : Int) : Nat := x.2 + min bytes.toNat (x.1.length - x.2)
def fallF (fl : Nat → S × Nat) (l : List (S × Nat)) (bytes : Int) : Nat → S × Nat := fun b => if l.any (fun p => p.2 == b) then ((fl b).1.take (left (fl b) bytes), left (fl b) bytes) else fl b
def M.fall (m : M) (names bytes : Int) : M :=
  let l := ages m.safe (m.moves.take (min names.toNat m.moves.length))
  {m with now := l, safe := l, moves := [], fl := fallF m.fl l bytes, named := tot (fallF m.fl l bytes) l, gone := 0, armed := false, fallen := false}

theorem onE_cases (m : M) (name : S) : (m.onE name = 7 ∧ m.onF name = none ∧ m.actE = 7) ∨ (m.onE name = 2 ∧ m.onF name = none ∧ m.actE = 0 ∧ get m.now name = none) ∨ ∃ b, m.onE name = 0 ∧ m.onF name = some b ∧ m.actE = 0 ∧ get m.now name = some b := by
  unfold M.onE M.onF
  rcases actE_cases m with h | h
  · cases hg : get m.now name <;> simp [h]
  · simp [h]

theorem Fine.mv {m : M} {v : Mv} {fl : Nat → S × Nat} {nd gn : Nat} (F : Fine m) (hg : Good (v.on m.now)) (hn : nd = tot fl (v.on m.now)) (hb : nd + gn ≤ 1000000000) (hl : ∃ lost, LostIs {m with now := v.on m.now, moves := m.moves ++ [v], fl := fl, named := nd, gone := gn} lost) : Fine {m with now := v.on m.now, moves := m.moves ++ [v], fl := fl, named := nd, gone := gn} := by
  have e : ages m.safe (m.moves ++ [v]) = v.on m.now := by rw [F.now]; simp [ages]
  refine ⟨F.ahead, hn, ?_, e.symm, F.room, hb, hl⟩
  intro k hk
  simp only [List.length_append, List.length_cons, List.length_nil] at hk
  rcases Nat.lt_or_ge m.moves.length k with h | h
  · have : k = m.moves.length + 1 := by omega
    subst this
    show Good (ages m.safe ((m.moves ++ [v]).take (m.moves.length + 1)))
    rw [List.take_of_length_le (by simp), e]
    exact hg
  · show Good (ages m.safe ((m.moves ++ [v]).take k))
    rw [List.take_append_of_le_length h]
    exact F.good k h
theorem Fine.goodNow {m : M} (F : Fine m) : Good m.now := by
  have := F.good m.moves.length (Nat.le_refl _)
  rw [List.take_length] at this
  rw [F.now]; exact this
theorem Fine.fresh {m : M} (F : Fine m) {b : Nat} (hb : ∀ k, k ≤ m.moves.length → b ∉ files (ages m.safe (m.moves.take k))) : ∀ s, (s, b) ∉ m.now := fun s hs => by
  have := hb m.moves.length (Nat.le_refl _)
  rw [List.take_length, ← F.now] at this
  exact this (mem_files.2 ⟨s, hs⟩)
theorem Fine.create {m : M} (F : Fine m) (name : S) (b : Nat) (hbb : ∀ k, k ≤ m.moves.length → b ∉ files (ages m.safe (m.moves.take k))) : Fine (m.create name b) := by
  have hb := F.fresh hbb
  unfold M.create
  split
  · exact F
  · rename_i hk
    split
    · exact F.act
    · cases hg : get m.now name with
      | some c => exact F.act
      | none =>
        have FA := F.act
        obtain ⟨e1, e2, e3, e4, e5, e6, e7⟩ := act_now m
        have hne : name ≠ [] := by intro e; subst e; exact hk (by decide)
        have G := F.goodNow
        have h := FA.mv (v := ⟨[], name, some b⟩) (fl := fun c => if c = b then ([], 0) else m.fl c) (nd := m.named) (gn := m.gone) (by
            rw [e1]; exact G.mv _ (fun c hc => by cases hc; exact ⟨hne, fun t _ => hb t⟩)) (by rw [e1, tot_new G hg hb]; exact F.named) F.bytes (by
            obtain ⟨lost, hL⟩ := FA.lost
            have hbl : b ∉ lost := fun hm => by
              obtain ⟨k, hk, h⟩ := hL.some b hm
              rw [e2, e3] at h
              rw [e3] at hk
              exact hbb k hk h
            have eo : Mv.on ⟨[], name, some b⟩ m.now = m.now ++ [(name, b)] := by
              simp only [Mv.on, wi]
              rw [wo_self G.ne, wo_self]
              intro p hp e
              exact get_none.1 hg p.2 (by rw [← e]; exact hp)
            refine ⟨lost, hL.mv FA.now hL.nd ?_ ?_ (fun b h => h) (fun b h => Or.inl h) ?_⟩
            · intro c hc hm
              rw [e1, eo] at hm
              simp only [files, List.map_append, List.map_cons, List.map_nil, List.mem_append, List.mem_singleton] at hm
              rcases hm with hm | hm
              · have := hL.out c hc; rw [e1] at this; exact this hm
              · subst hm; exact hbl hc
            · intro c hc
              rw [e1] at hc ⊢
              rw [eo]
              left
              simp only [files, List.map_append, List.mem_append] at hc ⊢
              exact Or.inl hc
            · rw [sumf_upd hbl, ← e6, ← e4]; exact hL.sum)
        simp only [M.mv, M.file]
        rw [e4]
        rw [← e5, ← e6] at h
        exact h
theorem Fine.lostFile {m m' : M} (F : Fine m) {b : Nat} {x : S × Nat} (hb : b ∈ files m.now) (hf : m'.fl = fun c => if c = b then x else m.fl c) (e : (m'.now, m'.safe, m'.moves, m'.gone) = (m.now, m.safe, m.moves, m.gone)) : ∃ lost, LostIs m' lost := by
  obtain ⟨lost, h⟩ := F.lost
  simp only [Prod.mk.injEq] at e
  obtain ⟨e1, e2, e3, e4⟩ := e
  refine ⟨lost, h.nd, by rw [e1]; exact h.out, by rw [e1, e2, e3]; exact h.all, by rw [e2, e3]; exact h.some, ?_⟩
  rw [e4, hf, sumf_upd (fun hm => h.out b hm hb)]
  exact h.sum
theorem Fine.append {m : M} (F : Fine m) (name p : S) : Fine (m.append name p) := by
  unfold M.append
  cases hf : m.onF name with
  | none => exact F.act
  | some b =>
    simp only
    split
    · exact F.act
    · rename_i hr
      have FA := F.act
      obtain ⟨e1, e2, e3, e4, e5, e6, e7⟩ := act_now m
      have hg : get m.now name = some b := by
        unfold M.onF at hf; split at hf
        · cases hf
        · exact hf
      have ht : _ + (m.fl b).1.length = _ + ((m.fl b).1 ++ p).length := tot_upd (fl := m.fl) (x := ((m.fl b).1 ++ p, (m.fl b).2)) F.goodNow.files (mem_get hg)
      rw [List.length_append] at ht
      have hr2 := F.room
      refine ⟨FA.ahead, ?_, FA.good, FA.now, FA.room, ?_, FA.lostFile (by rw [e1]; exact mem_files.2 ⟨_, mem_get hg⟩) (by rw [e4]) rfl⟩
      · show m.named + p.length = tot (fun c => if c = b then ((m.fl b).1 ++ p, (m.fl b).2) else m.fl c) m.act.now
        have := F.named
        rw [e1]
        omega
      · show m.named + p.length + m.act.gone ≤ _
        rw [e6]
        have hr : ¬ ((m.named : Int) + m.gone + p.length > m.room) := hr
        omega
theorem Fine.sync {m : M} (F : Fine m) (name : S) : Fine (m.sync name) := by
  unfold M.sync
  cases hf : m.onF name with
  | none => exact F.act
  | some b =>
    have FA := F.act
    obtain ⟨e1, e2, e3, e4, e5, e6, e7⟩ := act_now m
    have hg : get m.now name = some b := by
      unfold M.onF at hf; split at hf
      · cases hf
      · exact hf
    have ht : _ + (m.fl b).1.length = _ + (m.fl b).1.length := tot_upd (fl := m.fl) (x := ((m.fl b).1, (m.fl b).1.length)) F.goodNow.files (mem_get hg)
    refine ⟨FA.ahead, ?_, FA.good, FA.now, FA.room, FA.bytes, FA.lostFile (by rw [e1]; exact mem_files.2 ⟨_, mem_get hg⟩) rfl rfl⟩
    show m.act.named = tot (fun c => if c = b then _ else m.act.fl c) m.act.now
    rw [e1, e5, e4]
    have := F.named
    omega
theorem Fine.cut {m : M} (F : Fine m) (name : S) (n : Int) : Fine (m.cut name n) := by
  unfold M.cut
  cases hf : m.onF name with
  | none => exact F.act
  | some b =>
    simp only
    split
    · exact F.act
    · rename_i hr
      have FA := F.act
      obtain ⟨e1, e2, e3, e4, e5, e6, e7⟩ := act_now m
      have hg : get m.now name = some b := by
        unfold M.onF at hf; split at hf
        · cases hf
        · exact hf
      have hm := mem_get hg
      have ht : _ + (m.fl b).1.length = _ + ((m.fl b).1.take n.toNat).length := tot_upd (fl := m.fl) (x := ((m.fl b).1.take n.toNat, n.toNat)) F.goodNow.files hm
      have hle := tot_le (fl := m.fl) hm
      have hn := F.named
      have hby := F.bytes
      refine ⟨FA.ahead, ?_, FA.good, FA.now, FA.room, ?_, FA.lostFile (by rw [e1]; exact mem_files.2 ⟨_, mem_get hg⟩) (by rw [e4]) rfl⟩
      · show m.named - ((m.fl b).1.length - n.toNat) = tot (fun c => if c = b then ((m.fl b).1.take n.toNat, n.toNat) else m.fl c) m.act.now
        rw [e1]
        rw [List.length_take] at ht
        omega
      · show m.named - _ + m.act.gone ≤ _
        rw [e6]; omega
theorem Fine.settle {m : M} (F : Fine m) (k : Nat) (hk : k ≤ m.moves.length) {nw : List (S × Nat)} {fl : Nat → S × Nat} {nd : Nat} (hn : nw = ages m.safe (m.moves.take k)) (h : nd = tot fl nw) (hb : nd ≤ 1000000000) : Fine {m with safe := ages m.safe (m.moves.take k), moves := [], gone := 0, now := nw, fl := fl, named := nd} := by
  refine ⟨F.ahead, h, ?_, hn, F.room, hb, [], by simp, by simp, ?_, by simp, rfl⟩
  · intro j hj
    simp at hj
    subst hj
    show Good (ages (ages m.safe (m.moves.take k)) [])
    exact F.good k hk
  · intro j hj b hb'
    left
    have hb' : b ∈ files (ages (ages m.safe (m.moves.take k)) (([] : List Mv).take j)) := hb'
    rw [List.take_nil] at hb'
    show b ∈ files nw
    rw [hn]; exact hb'
theorem Fine.names {m : M} (F : Fine m) : Fine m.names := by
  unfold M.names
  split
  · exact F.act
  · have FA := F.act
    obtain ⟨e1, e2, e3, e4, e5, e6, e7⟩ := act_now m
    have hb := FA.bytes
    have h := FA.settle m.moves.length (by rw [e3]; exact Nat.le_refl _) (nw := m.act.now) (fl := m.act.fl) (nd := m.act.named) (by rw [e1, e2, e3, List.take_length]; exact F.now) FA.named (by omega)
    rw [e2, e3, List.take_length] at h
    exact h
theorem lose_now (m : M) (name : S) : (m.lose name).now = m.now ∧ (m.lose name).safe = m.safe ∧ (m.lose name).moves = m.moves ∧ (m.lose name).fl = m.fl ∧ (m.lose name).done = m.done := by
  unfold M.lose; split <;> simp
theorem Fine.lose {m : M} (F : Fine m) (name : S) (v : Mv) (hg : Good (v.on m.now)) (ht : tot m.fl (v.on m.now) + (match get m.now name with | none => 0 | some c => (m.fl c).1.length) = tot m.fl m.now)
    (hf : ∀ b, b ∈ files (v.on m.now) ↔ b ∈ files m.now ∧ get m.now name ≠ some b) : Fine ((m.lose name).mv v) := by
  have hn := F.named
  have hb := F.bytes
  obtain ⟨lost, hL⟩ := F.lost
  unfold M.lose M.mv
  cases e : get m.now name with
  | none =>
    rw [e] at ht
    have ht : tot m.fl (v.on m.now) + 0 = tot m.fl m.now := ht
    refine F.mv (fl := m.fl) (nd := m.named) (gn := m.gone) hg (by omega) hb ⟨lost, hL.mv F.now hL.nd (fun b hb h => hL.out b hb ((hf b).1 h).1) (fun b hb => Or.inl ((hf b).2 ⟨hb, by rw [e]; simp⟩)) (fun b h => h) (fun b h => Or.inl h) hL.sum⟩
  | some c =>
    rw [e] at ht
    simp only at ht ⊢
    have hc : c ∈ files m.now := mem_files.2 ⟨_, mem_get e⟩
    refine F.mv hg (by omega) (by omega) ⟨c :: lost, hL.mv F.now ?_ ?_ ?_ (fun b h => List.mem_cons_of_mem _ h) ?_ ?_⟩
    · exact List.nodup_cons.2 ⟨fun h => hL.out c h hc, hL.nd⟩
    · intro b hb' h
      rcases List.mem_cons.1 hb' with h' | h'
      · subst h'; exact ((hf b).1 h).2 e
      · exact hL.out b h' ((hf b).1 h).1
    · intro b hb'
      by_cases h : b = c
      · right; rw [h]; exact List.mem_cons_self ..
      · left; exact (hf b).2 ⟨hb', by rw [e]; intro h'; injection h' with h'; exact h h'.symm⟩
    · intro b hb'
      rcases List.mem_cons.1 hb' with h' | h'
      · right; rw [h']; exact hc
      · exact Or.inl h'
    · rw [sumf_cons, hL.sum]; omega
theorem files_del {l : List (S × Nat)} (G : Good l) {name : S} {c : Nat} (_h : get l name = some c) (b : Nat) : b ∈ files (Mv.on ⟨name, [], none⟩ l) ↔ b ∈ files l ∧ get l name ≠ some b := by
  simp only [Mv.on, mem_files]
  constructor
  · rintro ⟨s, hs⟩
    obtain ⟨h1, h2⟩ := mem_wo.1 hs
    exact ⟨⟨s, h1⟩, fun e => h2 (G.one h1 (mem_get e))⟩
  · rintro ⟨⟨s, hs⟩, h2⟩
    exact ⟨s, mem_wo.2 ⟨hs, fun e => h2 (by have e : s = name := e; rw [← e]; exact get_mem G.keys hs)⟩⟩
theorem files_ren {l : List (S × Nat)} (G : Good l) {fr to : S} {c : Nat} (h : get l fr = some c) (hne : fr ≠ to) (b : Nat) : b ∈ files (Mv.on ⟨fr, to, some c⟩ l) ↔ b ∈ files l ∧ get l to ≠ some b := by
  simp only [Mv.on, wi, mem_files]
  constructor
  · rintro ⟨s, hs⟩
    rcases List.mem_append.1 hs with hs | hs
    · obtain ⟨h0, h2⟩ := mem_wo.1 hs
      obtain ⟨h1, _⟩ := mem_wo.1 h0
      exact ⟨⟨s, h1⟩, fun e => h2 (G.one h1 (mem_get e))⟩
    · simp only [List.mem_singleton, Prod.mk.injEq] at hs
      obtain ⟨rfl, rfl⟩ := hs
      exact ⟨⟨fr, mem_get h⟩, fun e => hne (G.one (mem_get h) (mem_get e))⟩
  · rintro ⟨⟨s, hs⟩, h2⟩
    by_cases e : s = fr
    · subst e
      have : b = c := by have := get_mem G.keys hs; rw [h] at this; injection this with this; exact this.symm
      subst this
      exact ⟨to, List.mem_append.2 (Or.inr (by simp))⟩
    · refine ⟨s, List.mem_append.2 (Or.inl (mem_wo.2 ⟨mem_wo.2 ⟨hs, e⟩, fun e2 => h2 ?_⟩))⟩
      have e2 : s = to := e2
      rw [← e2]; exact get_mem G.keys hs
theorem Fine.rename {m : M} (F : Fine m) (fr to : S) : Fine (m.rename fr to) := by
  unfold M.rename
  split
  · exact F
  · rename_i hk
    cases hf : m.onF fr with
    | none => exact F.act
    | some b =>
      simp only
      split
      · exact F.act
      · rename_i hne
        have FA := F.act
        obtain ⟨e1, e2, e3, e4, e5, e6, e7⟩ := act_now m
        have hg : get m.now fr = some b := by
          unfold M.onF at hf; split at hf
          · cases hf
          · exact hf
        have hto : to ≠ [] := by intro e; subst e; exact hk (by decide)
        have G := F.goodNow
        refine FA.lose to _ ?_ ?_ ?_
        · rw [e1]; exact G.mv _ (fun c hc => by cases hc; exact ⟨hto, fun t ht hm => ht (G.one hm (mem_get hg))⟩)
        · rw [e1, e4]; exact tot_ren G hg hne
        · rw [e1]; exact files_ren G hg hne
theorem Fine.delete {m : M} (F : Fine m) (name : S) : Fine (m.delete name) := by
  unfold M.delete
  cases hf : m.onF name with
  | none => exact F.act
  | some b =>
    have FA := F.act
    obtain ⟨e1, e2, e3, e4, e5, e6, e7⟩ := act_now m
    have hg : get m.now name = some b := by
      unfold M.onF at hf; split at hf
      · cases hf
      · exact hf
    have G := F.goodNow
    refine FA.lose name _ ?_ ?_ ?_
    · rw [e1]; exact G.mv _ (fun c hc => by cases hc)
    · rw [e1, e4, hg]; exact tot_del G hg
    · rw [e1]; exact files_del G hg
theorem Fine.bound {m : M} (F : Fine m) (k : Nat) (hk : k ≤ m.moves.length) : tot m.fl (ages m.safe (m.moves.take k)) ≤ m.named + m.gone := by
  obtain ⟨lost, h⟩ := F.lost
  rw [tot_files, F.named, tot_files, h.sum, ← sumf_app]
  refine sumf_le m.fl (F.good k hk).files ?_
  intro b hb
  exact List.mem_append.2 (h.all k hk b hb)
theorem left_le (x : S × Nat) (n : Int) (h : x.2 ≤ x.1.length) : left x n ≤ x.1.length := by unfold left; omega
theorem tot_fall_le (fl : Nat → S × Nat) (l l' : List (S × Nat)) (n : Int) : tot (fallF fl l n) l' ≤ tot fl l' := by
  unfold tot
  induction l' with
  | nil => simp
  | cons p r ih =>
    simp only [List.map_cons, List.sum_cons]
    have : (fallF fl l n p.2).1.length ≤ (fl p.2).1.length := by
      unfold fallF; split
      · simp only [List.length_take]; omega
      · exact Nat.le_refl _
    omega
end Go.Proofs.Ytkalgonkaoiapaa.Shf
