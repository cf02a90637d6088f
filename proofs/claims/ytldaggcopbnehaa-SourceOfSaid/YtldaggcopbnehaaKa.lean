/- Plain facts on tables: rows by their prefixes, rising; no Go in sight. -/
import Derived.Test.YtldaggcopbnehaaCm
import Derived.Test.YtldaggcopbnehaaBs
import Derived.Test.YtldaggcopbnehaaBc
namespace Go.Proofs.Ytldaggcopbnehaa.Tab
open Pre Ser Chg

/-- A row. -/
structure R where
  addr : Nat
  len : Nat
  has : Bool
  via : Nat
  metric : Nat
  seq : Nat
  ms : Nat
  mm : Nat
theorem R.ext' {c d : R} (h1 : c.addr = d.addr) (h2 : c.len = d.len) (h3 : c.has = d.has) (h4 : c.via = d.via) (h5 : c.metric = d.metric) (h6 : c.seq = d.seq) (h7 : c.ms = d.ms) (h8 : c.mm = d.mm) : c = d := by
  cases c; cases d; simp_all
def R.cl (r : R) : List Value := [.int .u32 (r.addr : Int), .int .u8 (r.len : Int), .bool r.has, .int .u32 (r.addr : Int), .int .u8 (r.len : Int), .int .i64 (r.via : Int), .int .u16 (r.metric : Int), .int .u16 (r.seq : Int), .int .u16 (r.ms : Int), .int .u16 (r.mm : Int)]
theorem rcl_len (r : R) : r.cl.length = 10 := rfl
theorem rflat_len (rs : List R) : (rs.flatMap R.cl).length = rs.length * 10 := by
  induction rs with
  | nil => rfl
  | cons r rs ih => simp only [List.flatMap_cons, List.length_append, rcl_len, ih, List.length_cons]; omega
theorem rflat_at : ∀ (rs : List R) (k i : Nat) (hk : k < rs.length), i < 10 → (rs.flatMap R.cl)[k * 10 + i]? = (rs[k].cl)[i]?
  | r :: rs, 0, i, _, hi => by
    simp only [List.flatMap_cons, Nat.zero_mul, Nat.zero_add, List.getElem_cons_zero]
    rw [List.getElem?_append_left (by rw [rcl_len]; exact hi)]
  | r :: rs, k + 1, i, hk, hi => by
    simp only [List.flatMap_cons, List.getElem_cons_succ]
    rw [List.getElem?_append_right (by rw [rcl_len]; omega), rcl_len, show (k + 1) * 10 + i - 10 = k * 10 + i by omega]
    exact rflat_at rs k i (by simpa using hk) hi
theorem rflat_take (rs : List R) (k : Nat) : (rs.flatMap R.cl).take (k * 10) = (rs.take k).flatMap R.cl := by
  induction rs generalizing k with
  | nil => simp
  | cons r rs ih =>
    cases k with
    | zero => simp
    | succ k =>
      simp only [List.flatMap_cons, List.take_succ_cons]
      rw [List.take_append, rcl_len, show (k + 1) * 10 - 10 = k * 10 by omega, ih, List.take_of_length_le (by rw [rcl_len]; omega)]
theorem rflat_drop (rs : List R) (k : Nat) : (rs.flatMap R.cl).drop (k * 10) = (rs.drop k).flatMap R.cl := by
  induction rs generalizing k with
  | nil => simp
  | cons r rs ih =>
    cases k with
    | zero => simp
    | succ k =>
      simp only [List.flatMap_cons, List.drop_succ_cons]
      rw [List.drop_append, rcl_len, show (k + 1) * 10 - 10 = k * 10 by omega, ih, List.drop_of_length_le (by rw [rcl_len]; omega)]
      rfl
theorem rcl_one (rs : List R) : ∀ u ∈ rs.flatMap R.cl, u.oneCell' = true := by
  intro u hu
  obtain ⟨r, _, hr⟩ := List.mem_flatMap.1 hu
  simp [R.cl] at hr
  rcases hr with rfl | rfl | rfl | rfl | rfl | rfl | rfl | rfl | rfl | rfl <;> rfl

/-- Where it stands. -/
def key (a n : Nat) : Nat := a * 64 + n
def R.key (r : R) : Nat := Tab.key r.addr r.len
def _root_.Go.Proofs.Ytldaggcopbnehaa.Chg.C.key (c : C) : Nat := Tab.key c.addr c.len
theorem key_inj {a n b k : Nat} (h1 : n < 64) (h2 : k < 64) : key a n = key b k ↔ a = b ∧ n = k := by unfold key; omega
theorem cmp_lt {a n b k : Nat} (h1 : n < 64) (h2 : k < 64) : cmpP a n b k < 0 ↔ key a n < key b k := by
  unfold cmpP orV cmpV key; repeat' split
  all_goals omega
theorem cmp_eq {a n b k : Nat} (h1 : n < 64) (h2 : k < 64) : cmpP a n b k = 0 ↔ key a n = key b k := by
  unfold cmpP orV cmpV key; repeat' split
  all_goals omega
theorem ahead_key {a n b k : Nat} (h1 : n < 64) (h2 : k < 64) : (decide (a < b) || (a == b && decide (n < k))) = decide (key a n < key b k) := by
  unfold key
  by_cases h : a < b
  · simp [h]; omega
  · by_cases h' : a = b
    · subst h'; simp
    · have : ¬ (a * 64 + n < b * 64 + k) := by omega
      simp [h, h', this]

/-- The nearer one of two marks. -/
def near (s m t n : Nat) : Bool := nearer (s : Int) m t n
def R.next (r : R) (c : C) : R :=
  let r1 : R := { r with has := !c.gone, via := c.via, metric := c.metric, seq := c.seq }
  if c.gone then r1 else if near c.seq c.metric r.ms r.mm then { r1 with ms := c.seq, mm := c.metric } else r1
def R.first (c : C) : R := { addr := c.addr, len := c.len, has := true, via := c.via, metric := c.metric, seq := c.seq, ms := c.seq, mm := c.metric }
theorem next_key (r : R) (c : C) : (r.next c).key = r.key := by unfold R.next R.key; dsimp only; split <;> (try split) <;> rfl
theorem next_addr (r : R) (c : C) : (r.next c).addr = r.addr ∧ (r.next c).len = r.len := by unfold R.next; dsimp only; split <;> (try split) <;> exact ⟨rfl, rfl⟩
theorem next_has (r : R) (c : C) : (r.next c).has = !c.gone := by unfold R.next; dsimp only; split <;> (try split) <;> rfl

/-- What a change makes of the rows. -/
def upd (c : C) : List R → List R
  | [] => [R.first c]
  | r :: rs => if r.key < c.key then r :: upd c rs else if r.key = c.key then r.next c :: rs else R.first c :: r :: rs
/-- Where a prefix stands, or would stand. -/
def pos (x : Nat) : List R → Nat
  | [] => 0
  | r :: rs => if r.key < x then pos x rs + 1 else 0
theorem pos_le (x : Nat) : ∀ rs, pos x rs ≤ rs.length
  | [] => Nat.le_refl _
  | r :: rs => by unfold pos; split; · have := pos_le x rs; simpa using this
                  · simp
theorem pos_lt (x : Nat) : ∀ (rs : List R) (j : Nat) (hj : j < rs.length), j < pos x rs → rs[j].key < x
  | r :: rs, 0, _, h => by
    unfold pos at h; split at h
    · assumption
    · omega
  | r :: rs, j + 1, hj, h => by
    unfold pos at h; split at h
    · exact pos_lt x rs j (by simpa using hj) (by omega)
    · omega
theorem pos_at (x : Nat) : ∀ (rs : List R) (h : pos x rs < rs.length), x ≤ rs[pos x rs].key
  | [], h => by simp [pos] at h
  | r :: rs, h => by
    by_cases hr : r.key < x
    · have e : pos x (r :: rs) = pos x rs + 1 := by simp [pos, hr]
      have h2 : pos x rs < rs.length := by rw [e] at h; simpa using h
      have := pos_at x rs h2
      simp only [e, List.getElem_cons_succ]; exact this
    · have e : pos x (r :: rs) = 0 := by simp [pos, hr]
      simp only [e, List.getElem_cons_zero]; omega
def Rising (rs : List R) : Prop := rs.Pairwise fun a b => a.key < b.key
theorem Rising.get {rs : List R} (h : Rising rs) {i j : Nat} (hi : i < j) (hj : j < rs.length) : (rs[i]'(Nat.lt_trans hi hj)).key < rs[j].key :=
  List.pairwise_iff_getElem.1 h i j (Nat.lt_trans hi hj) hj hi
/-- The place by what stands ahead of it and behind. -/
theorem pos_of {rs : List R} {x i : Nat} (hi : i ≤ rs.length) (h1 : ∀ j (hj : j < rs.length), j < i → rs[j].key < x) (h2 : ∀ j (hj : j < rs.length), i ≤ j → x ≤ rs[j].key) : i = pos x rs := by
  rcases Nat.lt_trichotomy i (pos x rs) with h | h | h
  · have hl := Nat.lt_of_lt_of_le h (pos_le x rs)
    have := pos_lt x rs i hl h
    have := h2 i hl (Nat.le_refl _)
    omega
  · exact h
  · have hl := Nat.lt_of_lt_of_le h hi
    have := h1 _ hl h
    have := pos_at x rs hl
    omega
theorem pos_behind {rs : List R} (hr : Rising rs) {x j : Nat} (hj : j < rs.length) (h : pos x rs ≤ j) : x ≤ rs[j].key := by
  have h0 := pos_at x rs (Nat.lt_of_le_of_lt h hj)
  rcases Nat.lt_or_eq_of_le h with h | h
  · have := hr.get h hj; omega
  · subst h; exact h0
theorem upd_there {c : C} : ∀ {rs : List R} (h : pos c.key rs < rs.length), rs[pos c.key rs].key = c.key → upd c rs = rs.set (pos c.key rs) (rs[pos c.key rs].next c)
  | [], h, _ => by simp [pos] at h
  | r :: rs, h, he => by
    by_cases hr : r.key < c.key
    · have e : pos c.key (r :: rs) = pos c.key rs + 1 := by simp [pos, hr]
      have h2 : pos c.key rs < rs.length := by rw [e] at h; simpa using h
      simp only [e, List.getElem_cons_succ] at he
      simp only [e, List.getElem_cons_succ, List.set_cons_succ, upd, hr, if_true]
      rw [upd_there h2 he]
    · have e : pos c.key (r :: rs) = 0 := by simp [pos, hr]
      simp only [e, List.getElem_cons_zero] at he
      simp only [e, List.getElem_cons_zero, List.set_cons_zero]
      rw [upd, if_neg hr, if_pos he]
theorem upd_new {c : C} : ∀ {rs : List R}, (∀ h : pos c.key rs < rs.length, rs[pos c.key rs].key ≠ c.key) → upd c rs = rs.take (pos c.key rs) ++ R.first c :: rs.drop (pos c.key rs)
  | [], _ => by simp [pos, upd]
  | r :: rs, he => by
    by_cases hr : r.key < c.key
    · have e : pos c.key (r :: rs) = pos c.key rs + 1 := by simp [pos, hr]
      have ih := upd_new (c := c) (rs := rs) (fun h => by
        have := he (by rw [e]; simpa using h)
        simpa only [e, List.getElem_cons_succ] using this)
      simp only [e, List.take_succ_cons, List.drop_succ_cons, upd, hr, if_true, List.cons_append]
      rw [ih]
    · have e : pos c.key (r :: rs) = 0 := by simp [pos, hr]
      have h1 := he (by rw [e]; simp)
      simp only [e, List.getElem_cons_zero] at h1
      simp only [e, List.take_zero, List.drop_zero, List.nil_append, upd, hr, if_false, h1]
theorem upd_keys (c : C) (y : Nat) : ∀ rs : List R, (∀ r ∈ rs, y < r.key) → y < c.key → ∀ r ∈ upd c rs, y < r.key
  | [], _, hc, r, hr => by simp [upd] at hr; subst hr; exact hc
  | r0 :: rs, h, hc, r, hr => by
    unfold upd at hr
    split at hr
    · rcases List.mem_cons.1 hr with rfl | hr
      · exact h _ List.mem_cons_self
      · exact upd_keys c y rs (fun r hr => h r (List.mem_cons_of_mem _ hr)) hc r hr
    · split at hr
      · rcases List.mem_cons.1 hr with rfl | hr
        · rw [next_key]; exact h _ List.mem_cons_self
        · exact h r (List.mem_cons_of_mem _ hr)
      · rcases List.mem_cons.1 hr with rfl | hr
        · exact hc
        · exact h r hr
theorem Rising.upd {c : C} : ∀ {rs : List R}, Rising rs → Rising (Tab.upd c rs)
  | [], _ => by simp [Tab.upd, Rising]
  | r :: rs, h => by
    obtain ⟨h1, h2⟩ := List.pairwise_cons.1 h
    unfold Tab.upd
    split
    · rename_i hlt
      exact List.pairwise_cons.2 ⟨upd_keys c r.key rs h1 hlt, Rising.upd h2⟩
    · split
      · exact List.pairwise_cons.2 ⟨fun a ha => by rw [next_key]; exact h1 a ha, h2⟩
      · rename_i hn he
        refine List.pairwise_cons.2 ⟨fun a ha => ?_, h⟩
        have : (R.first c).key = c.key := rfl
        rcases List.mem_cons.1 ha with rfl | ha
        · rw [this]; omega
        · have := h1 a ha; rw [‹(R.first c).key = c.key›]; omega
/-- A row of a key. -/
def look (x : Nat) (rs : List R) : Option R := rs.find? fun r => r.key == x
theorem look_upd (c : C) (x : Nat) : ∀ {rs : List R}, Rising rs → look x (upd c rs) = if c.key = x then some (match look x rs with | some r => r.next c | none => R.first c) else look x rs
  | [], _ => by
    by_cases h : c.key = x
    · have : (R.first c).key = x := h
      simp [upd, look, h, this]
    · have : ¬ (R.first c).key = x := h
      simp [upd, look, h, this]
  | r :: rs, hr => by
    obtain ⟨h1, h2⟩ := List.pairwise_cons.1 hr
    have ih := look_upd c x h2
    unfold upd
    split
    · rename_i hlt
      by_cases hx : r.key = x
      · have hc : ¬ c.key = x := by omega
        simp [look, hx, hc]
      · have e1 : look x (r :: upd c rs) = look x (upd c rs) := by simp [look, hx]
        have e2 : look x (r :: rs) = look x rs := by simp [look, hx]
        rw [e1, e2, ih]
    · split
      · rename_i hn he
        by_cases hx : c.key = x
        · have h3 : r.key = x := by omega
          have h4 : (r.next c).key = x := by rw [next_key]; exact h3
          simp [look, hx, h3, h4]
        · have h3 : ¬ r.key = x := by omega
          have h4 : ¬ (r.next c).key = x := by rw [next_key]; exact h3
          simp [look, hx, h3, h4]
      · rename_i hn he
        by_cases hx : c.key = x
        · have h3 : (R.first c).key = x := hx
          have h0 : look x (r :: rs) = none := by
            unfold look
            rw [List.find?_eq_none]
            intro a ha
            rcases List.mem_cons.1 ha with rfl | ha
            · simp; omega
            · have := h1 a ha; simp; omega
          rw [h0]
          simp [look, h3, hx]
        · have h3 : ¬ (R.first c).key = x := hx
          simp [look, h3, hx]
theorem upd_len (c : C) : ∀ rs : List R, (upd c rs).length ≤ rs.length + 1
  | [] => by simp [upd]
  | r :: rs => by
    unfold upd
    split
    · have := upd_len c rs; simpa using this
    · split <;> simp
/-- May a row be? -/
def R.Ok (r : R) : Prop := r.addr < 4294967296 ∧ r.len ≤ 32 ∧ r.via < 16 ∧ r.metric < 65535 ∧ r.seq < 65536 ∧ r.ms < 65536 ∧ r.mm < 65535 ∧ Pre.right r.addr r.len = true ∧ (r.has = false → r.via = 0 ∧ r.metric = 0 ∧ r.seq = 0)
theorem R.Ok.first {c : C} (h : c.Ok) : (R.first c).Ok := ⟨h.2.2.1, h.2.2.2.1, h.2.2.2.2.1, h.2.2.2.2.2.1, h.2.2.2.2.2.2.1, h.2.2.2.2.2.2.1, h.2.2.2.2.2.1, h.2.2.2.2.2.2.2.1, fun e => by cases e⟩
theorem R.Ok.next {r : R} {c : C} (hr : r.Ok) (h : c.Ok) : (r.next c).Ok := by
  obtain ⟨r1, r2, r3, r4, r5, r6, r7, r8, r9⟩ := hr
  obtain ⟨c1, c2, c3, c4, c5, c6, c7, c8, c9⟩ := h
  unfold R.next; dsimp only
  split
  · rename_i hg
    exact ⟨r1, r2, c5, c6, c7, r6, r7, r8, fun _ => c9 hg⟩
  · rename_i hg
    split
    · exact ⟨r1, r2, c5, c6, c7, c7, c6, r8, fun e => by simp [hg] at e⟩
    · exact ⟨r1, r2, c5, c6, c7, r6, r7, r8, fun e => by simp [hg] at e⟩
theorem upd_ok {c : C} (h : c.Ok) : ∀ {rs : List R}, (∀ r ∈ rs, r.Ok) → ∀ r ∈ upd c rs, r.Ok
  | [], _, r, hr => by simp [upd] at hr; subst hr; exact R.Ok.first h
  | r0 :: rs, hs, r, hr => by
    unfold upd at hr
    split at hr
    · rcases List.mem_cons.1 hr with rfl | hr
      · exact hs _ List.mem_cons_self
      · exact upd_ok h (fun r hr => hs r (List.mem_cons_of_mem _ hr)) r hr
    · split at hr
      · rcases List.mem_cons.1 hr with rfl | hr
        · exact (hs _ List.mem_cons_self).next h
        · exact hs r (List.mem_cons_of_mem _ hr)
      · rcases List.mem_cons.1 hr with rfl | hr
        · exact R.Ok.first h
        · exact hs r hr
/-- A table. -/
structure T where
  rows : List R
  no : Nat
  time : Nat
structure T.Ok (t : T) : Prop where
  up : Rising t.rows
  ok : ∀ r ∈ t.rows, r.Ok
  no : t.no < 18446744073709551616
  time : t.time < 18446744073709551616
def T.put (t : T) (c : C) : T := ⟨upd c t.rows, c.no, c.time⟩
theorem T.Ok.put {t : T} {c : C} (h : t.Ok) (hc : c.Ok) : (t.put c).Ok := ⟨h.up.upd, upd_ok hc h.ok, hc.1, hc.2.1⟩
def T.new : T := ⟨[], 0, 0⟩
theorem T.Ok.new : T.new.Ok := ⟨List.Pairwise.nil, fun r h => (by cases h), by decide, by decide⟩
end Go.Proofs.Ytldaggcopbnehaa.Tab
