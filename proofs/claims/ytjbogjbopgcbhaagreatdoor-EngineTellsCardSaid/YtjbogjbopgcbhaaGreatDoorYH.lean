/- A router: a neighbor is met. A router: what a neighbor tells of a prefix. A router: appends; one of its slices is another one; what it asks. -/
import Derived.Test.YtjbogjbopgcbhaaGreatDoorYG
import Derived.Test.YtjbogjbopgcbhaaGreatDoorYF
import Derived.Laws.AppendOwnNone
import Derived.Lib.AppendZeros
namespace Go.Proofs.YtjbogjbopgcbhaaGreatDoor.Eg
open Pre Ser Rts
open Go.Proofs.YtjbogjbopgcbhaaGreatDoor.Src (row1 row2 Mk SrcAt)
open Go.Proofs.YtjbogjbopgcbhaaGreatDoor.Lk (LkAt)
open Go.ChangeShapes Go.WideShapes Go.ChangeAt Go.RowKit
set_option maxRecDepth 8000
set_option linter.unusedVariables false
set_option linter.unusedSimpArgs false
theorem gpos_keys {α : Type} (κ : α → Nat) (x : Nat) : ∀ L : List α, gpos κ x L = gpos id x (L.map κ)
  | [] => rfl
  | e :: L => by
    have := gpos_keys κ x L
    simp only [gpos, List.map_cons, id, this]
theorem nbz_keys {lo : Nat} {w : World} {e : Eng} {m : Mem} (h : EngP lo w e m) : (nbz e m).map (fun y : Nat × Nat => y.1) = e.nb.map (fun y : Nat × Lk.L => y.1) := by
  unfold nbz
  exact List.map_fst_zip (by rw [List.length_map, h.lsl]; exact Nat.le_refl _)
theorem nbz_pos {lo : Nat} {w : World} {e : Eng} {m : Mem} (h : EngP lo w e m) (x : Nat) : gpos (fun y : Nat × Nat => y.1) x (nbz e m) = gpos (fun y : Nat × Lk.L => y.1) x e.nb := by
  rw [gpos_keys, gpos_keys (fun y : Nat × Lk.L => y.1), nbz_keys h]
def Eng.ins (e : Eng) (x : Nat) (l : Lk.L) : Eng := { e with nb := e.nb.take (gpos (fun y : Nat × Lk.L => y.1) x e.nb) ++ (x, l) :: e.nb.drop (gpos (fun y : Nat × Lk.L => y.1) x e.nb) }
def Eng.meet (e : Eng) (x now : Nat) : Eng := if e.nb.any (fun y => y.1 == x) then e else e.ins x (Lk.L.new now)
def Mem.ins (m : Mem) (p b : Nat) (v : Value) : Mem := { m with vn := v, ls := m.ls.take p ++ b :: m.ls.drop p }
theorem two {α β : Type} {t u : TypeId} {k j : Nat} {cl : α → List Value} {cm : β → List Value} {w : World} {B C : Nat} {v v' : Value} {l : List α} {l' : List β} (h : GOwn t k cl w B v l) (h' : GOwn u j cm w C v' l') (ht : t ≠ u) {b : Nat} (e : v.ownBlock = some b) : v'.ownBlock ≠ some b := by
  obtain ⟨-, cur, hg⟩ := h.lt e
  exact h'.ne hg ht
theorem zip_ins {α β : Type} (A : List α) (B : List β) (h : A.length = B.length) (p : Nat) (x : α) (y : β) : List.zip (A.take p ++ x :: A.drop p) (B.take p ++ y :: B.drop p) = (List.zip A B).take p ++ (x, y) :: (List.zip A B).drop p := by
  rw [List.zip_append (by rw [List.length_take, List.length_take, h]), List.zip_cons_cons]
  simp only [List.zip, List.take_zipWith, List.drop_zipWith]
theorem EngP.ins {lo : Nat} {w w' : World} {e : Eng} {m : Mem} {x b : Nat} {l : Lk.L} {v' : Value} (h : EngP lo w e m) (F : Fr (fun k => m.vn.ownBlock = some k) w w') (O : GOwn 121 2 nbC w' lo v' ((nbz e m).take (gpos (fun y : Nat × Lk.L => y.1) x e.nb) ++ (x, b) :: (nbz e m).drop (gpos (fun y : Nat × Lk.L => y.1) x e.nb))) (hl : LkAt w' b l) (hb : lo ≤ b) (hn : b ∉ m.ls) : EngP lo w' (e.ins x l) (m.ins (gpos (fun y : Nat × Lk.L => y.1) x e.nb) b v') := by
  have hp := gpos_le (fun y : Nat × Lk.L => y.1) x e.nb
  unfold Eng.ins Mem.ins
  generalize gpos (fun y : Nat × Lk.L => y.1) x e.nb = p at *
  obtain ⟨-, vs, hrs, -⟩ := h.src
  have hY : ∀ {k : Nat} {o : Obj}, w.heap[k]? = some o → (∀ cur, o ≠ .cells cur 121 (0, 0)) → ¬ m.vn.ownBlock = some k := fun hk ho e => by
    obtain ⟨-, cur, hg⟩ := h.nbs.lt e
    rw [hg] at hk; injection hk with hk
    exact ho _ hk.symm
  refine ⟨gfr h.own F fun b hb => two h.own h.nbs (by decide) hb, srcfr h.src F (h.nbs.ne hrs (by decide)) (fun b es cl hb => hY hb (fun _ e => by cases e)), h.rts.fr F (h.nbs.ne h.rts.row (by decide)) (fun b hb => two (t := 173) (k := 7) (cl := E.cl) h.rts.own h.nbs (by decide) hb), ?_, ?_, fun y hy => ?_, ?_, gfr h.ch F fun b hb => two h.ch h.nbs (by decide) hb, gfr h.lost F fun b hb => two h.lost h.nbs (by decide) hb, gfr h.rq F fun b hb => two h.rq h.nbs (by decide) hb, ?_, h.lo0⟩
  · show GOwn 121 2 nbC w' lo v' (List.zip ((e.nb.take p ++ (x, l) :: e.nb.drop p).map (·.1)) (m.ls.take p ++ b :: m.ls.drop p))
    rw [List.map_append, List.map_cons, List.map_take, List.map_drop, zip_ins _ _ (by rw [List.length_map, h.lsl])]
    exact O
  · show (m.ls.take p ++ b :: m.ls.drop p).length = (e.nb.take p ++ (x, l) :: e.nb.drop p).length
    simp only [List.length_append, List.length_take, List.length_cons, List.length_drop, h.lsl]
  · change y ∈ List.zip (e.nb.take p ++ (x, l) :: e.nb.drop p) (m.ls.take p ++ b :: m.ls.drop p) at hy
    rw [zip_ins _ _ h.lsl.symm] at hy
    have old : y ∈ List.zip e.nb m.ls → lo ≤ y.2 ∧ LkAt w' y.2 y.1.2 := fun hm => by
      obtain ⟨h1, h2⟩ := h.lks y hm
      exact ⟨h1, h2.keep (F.block y.2 h2.lt (h.nbs.ne h2 (by decide)))⟩
    rcases List.mem_append.1 hy with hy | hy
    · exact old (List.mem_of_mem_take hy)
    · rcases List.mem_cons.1 hy with rfl | hy
      · exact ⟨hb, hl⟩
      · exact old (List.mem_of_mem_drop hy)
  · show (m.ls.take p ++ b :: m.ls.drop p).Nodup
    rw [List.nodup_append]
    have hnd := h.nd
    rw [← List.take_append_drop p m.ls, List.nodup_append] at hnd
    refine ⟨hnd.1, List.nodup_cons.2 ⟨fun hm => hn (List.mem_of_mem_drop hm), hnd.2.1⟩, fun a ha c hc e => ?_⟩
    rcases List.mem_cons.1 hc with rfl | hc
    · subst e; exact hn (List.mem_of_mem_take ha)
    · exact hnd.2.2 a ha c hc e
  · exact tabfr (lo := lo) h.tab F (fun e => by obtain ⟨h1, -⟩ := h.nbs.lt e; have := h.lo0; omega)
theorem EngP.step {lo : Nat} {w w' : World} {e : Eng} {m : Mem} {q : Nat} {r : Array Value} (h : EngP lo w e m) (row : w.heap[q]? = some (.cells r 95 (0, 0))) (B : Below w.heap.size w w') : EngP lo w' e m :=
  h.fr (Y := fun _ => False) (Fr.of B) (fun _ _ _ h => h) (h.apart row) (fun _ _ _ _ h => h) (fun h => h)
def MeetSaid (lo : Nat) (w : World) (q : Nat) (m : Mem) (e' : Eng) (x : Nat) (en : Ending) (w' : World) : Prop := ∃ (m' : Mem) (b i : Nat) (l : Lk.L), en = .returned (.pointer (some ⟨b, 0, none⟩)) ∧ EngAt lo w' q e' m' ∧ Ef lo (m.X q) w w' ∧ (∀ k, m'.X q k → m.X q k ∨ w.heap.size ≤ k) ∧ e'.nb[i]? = some (x, l) ∧ m'.ls[i]? = some b
theorem meet_old (w : World) (lo q : Nat) (e : Eng) (m : Mem) (h : EngAt lo w q e m) (hok : e.Ok) (i b now : Nat) (hi : i < e.nb.length) (hb : m.ls[i]? = some b) :
    Calls Tryz.prog 39 #[.pointer (some ⟨q, 0, none⟩), .int .i64 ((e.nb[i]).1 : Int), .int .u64 (now : Int)] w fun en w' => en = .returned (.pointer (some ⟨b, 0, none⟩)) ∧ Below w.heap.size w w' := by
  have hf := find_any w lo q e m h hok (e.nb[i]).1
  have hl := nbz_len h.p
  have hil : i < (nbz e m).length := by omega
  have hi3 : i < m.ls.length := by rw [h.p.lsl]; exact hi
  have hz := nbz_at h.p i hil hi hi3
  obtain ⟨h1, h2⟩ := gpos_hit (nbz_up h.p hok.nbu) hil (x := (e.nb[i]).1) (by rw [hz])
  rw [h1, h2] at hf
  rw [List.getElem?_eq_getElem hi3] at hb
  injection hb with hb
  rw [hb] at hz
  obtain ⟨A, c, hv, -, hs, -⟩ := gsl_of h.p.nbs (fun _ => rfl)
  change m.vn = .slice A (nbz e m).length c at hv
  change GSl 2 nbC w A (nbz e m) at hs
  have c4 := h.ec.c4
  rw [hv] at c4
  have hql := h.lt
  obtain ⟨bb, oo, e1, hbb, hc0⟩ := hs i hil
  have hc := NbAt.of hc0
  rw [hz] at hc
  generalize (e.nb[i]).1 = x at *
  subst e1
  obtain ⟨k, hk⟩ : ∃ k, k = (nbz e m).length := ⟨_, rfl⟩
  rw [← hk] at c4 hil
  have HF := Lib.hid (And.intro hf (fun w' (B : Below w.heap.size w w') => And.intro ((((Ser.bcell B).1 q 4 hql).trans c4)) ((hc.keep (B.block bb hbb)))))
  clear hf h hok hl hs hv hk hz h1 h2 hc hc0 c4 hi3 hb
  go_enter Tryz.func39, Tryz.ntmps39
  go_wp2_with (go_at_call 78; (with_reducible refine HF.out.1.mono ?_); rintro en w' ⟨rfl, B⟩; obtain ⟨c4, k0, k1⟩ := HF.out.2 w' B; have HB := Lib.hid B; clear B)
  go_ret
  exact ⟨rfl, HB.out⟩
set_option maxHeartbeats 4000000 in
theorem meet_new (w : World) (lo q : Nat) (e : Eng) (m : Mem) (h : EngAt lo w q e m) (hok : e.Ok) (x now : Nat) (hnow : now ≤ 4611686018427387000) (hno : ∀ y ∈ e.nb, y.1 ≠ x) :
    Calls Tryz.prog 39 #[.pointer (some ⟨q, 0, none⟩), .int .i64 (x : Int), .int .u64 (now : Int)] w (MeetSaid lo w q m (e.ins x (Lk.L.new now)) x) := by
  have hf := find_any w lo q e m h hok x
  have hl := nbz_len h.p
  rw [gthere_no (nbz_up h.p hok.nbu) (fun y hy => by
    obtain ⟨i, hi, rfl⟩ := List.getElem_of_mem hy
    rw [nbz_at h.p i hi (by omega) (by rw [h.p.lsl]; omega)]
    exact hno _ (List.getElem_mem _)), nbz_pos h.p] at hf
  obtain ⟨A, c, hv, -⟩ := gsl_of h.p.nbs (fun _ => rfl)
  change m.vn = .slice A (nbz e m).length c at hv
  obtain ⟨P, hP⟩ : ∃ P, P = gpos (fun y : Nat × Lk.L => y.1) x e.nb := ⟨_, rfl⟩
  rw [← hP] at hf
  have HPG := Lib.hid (And.intro (show P ≤ e.nb.length by rw [hP]; exact gpos_le _ _ _) hP)
  have HPG2 := Lib.hid (show e.nb.length ≤ 1000 by have := hok.nbl; omega)
  obtain ⟨k, hk⟩ : ∃ k, k = (nbz e m).length := ⟨_, rfl⟩
  rw [← hk] at hv
  have HV := Lib.hid hv
  have HNOW := Lib.hid hnow
  have HLO := Lib.hid h.los
  have HF := Lib.hid (And.intro hf (fun w' (B : Below w.heap.size w w') => h.step B))
  clear hf hl hv hk hP h hok hno hnow
  go_enter Tryz.func39, Tryz.ntmps39
  go_upto_region 3 with (go_at_call 78; (with_reducible refine HF.out.1.mono ?_); rintro en w1 ⟨rfl, B⟩; have HE0 := Lib.hid (HF.out.2 w1 B); have HB := Lib.hid B; clear B)
  clear HF
  have HE := HE0
  have HLO2 := Lib.hid HE0.out.los
  have HHS : Hid (∀ y : World, Fr (fun j => j = q ∨ m.vn.ownBlock = some j) w1 y → w1.heap.size ≤ y.heap.size) := Lib.hid fun y hy => hy.size
  refine wp_region_noPanic ?_
  refine wp_region_held_drew (S := fun y : World => Fr (fun j => j = q ∨ m.vn.ownBlock = some j) w1 y) (by kernel_rfl) (Fr.of ((Below.refl _ w1).drew)) (fun hHeld => ?_)
  replace HE := Lib.hid (HE.out.step ((Below.refl _ w1).drew))
  generalize w1.drew = wd at *
  refine wpAnyH_take (i := 0) (oi := ⟨some 17, .move (.tmp 0), 24, "engine.go:123", #[], none⟩) (v := .pointer (some ⟨q, 0, none⟩)) rfl (by kernel_rfl) (by kernel_rfl) (by kernel_rfl) (fun _ _ _ h => h) (Or.inl ⟨by rfl, fun w hSw => by go_simp⟩) (by assumption) ?_
  try simp only [Act.put, List.setIfInBounds_toArray, List.set_cons_zero, List.set_cons_succ]
  refine wpAnyH_take (i := 1) (oi := ⟨some 18, .move (.tmp 0), 24, "engine.go:123", #[], none⟩) (v := .pointer (some ⟨q, 0, none⟩)) rfl (by kernel_rfl) (by kernel_rfl) (by kernel_rfl) (fun _ _ _ h => h) (Or.inl ⟨by rfl, fun w hSw => by go_simp⟩) (by assumption) ?_
  try simp only [Act.put, List.setIfInBounds_toArray, List.set_cons_zero, List.set_cons_succ]
  refine wpAnyH_take (i := 2) (oi := ⟨some 19, .nilCheck (.tmp 18), 0, "engine.go:123", #[⟨1, .data⟩], none⟩) (v := .pointer (some ⟨q, 0, none⟩)) rfl (by kernel_rfl) (by kernel_rfl) (by kernel_rfl) (fun _ _ _ h => h) (Or.inl ⟨by rfl, fun w hSw => by go_simp⟩) (by assumption) ?_
  try simp only [Act.put, List.setIfInBounds_toArray, List.set_cons_zero, List.set_cons_succ]
  refine wpAnyH_take (i := 3) (oi := ⟨some 20, .fieldAddr 95 (.tmp 19) 4, 0, "engine.go:123", #[⟨2, .data⟩], none⟩) (v := .pointer (some ⟨q, 4, none⟩)) rfl (by kernel_rfl) (by kernel_rfl) (by kernel_rfl) (fun _ _ _ h => h) (Or.inl ⟨by rfl, fun w hSw => by go_simp⟩) (by assumption) ?_
  try simp only [Act.put, List.setIfInBounds_toArray, List.set_cons_zero, List.set_cons_succ]
  refine wpAnyH_take (i := 5) (oi := ⟨some 22, .move (.tmp 7), 3, "engine.go:123", #[], none⟩) (v := .int .i64 (P : Int)) rfl (by kernel_rfl) (by kernel_rfl) (by kernel_rfl) (fun _ _ _ h => h) (Or.inl ⟨by rfl, fun w hSw => by go_simp⟩) (by assumption) ?_
  try simp only [Act.put, List.setIfInBounds_toArray, List.set_cons_zero, List.set_cons_succ]
  refine wpAnyH_take (i := 6) (oi := ⟨some 23, .move (.tmp 1), 3, "engine.go:123", #[], none⟩) (v := .int .i64 (x : Int)) rfl (by kernel_rfl) (by kernel_rfl) (by kernel_rfl) (fun _ _ _ h => h) (Or.inl ⟨by rfl, fun w hSw => by go_simp⟩) (by assumption) ?_
  try simp only [Act.put, List.setIfInBounds_toArray, List.set_cons_zero, List.set_cons_succ]
  refine wpAnyH_take (i := 7) (oi := ⟨some 24, .move (.tmp 2), 27, "engine.go:123", #[], none⟩) (v := .int .u64 (now : Int)) rfl (by kernel_rfl) (by kernel_rfl) (by kernel_rfl) (fun _ _ _ h => h) (Or.inl ⟨by rfl, fun w hSw => by go_simp⟩) (by assumption) ?_
  try simp only [Act.put, List.setIfInBounds_toArray, List.set_cons_zero, List.set_cons_succ]
  refine wpAnyH_ready (rs := [4, 8]) (by kernel_rfl) (by simp) ?_
  refine (AllReadyH.cons (o := ⟨some 21, .load 91 (.tmp 20), 91, "engine.go:123", #[⟨3, .data⟩], none⟩) rfl (fun K hK => ?_) (AllReadyH.cons (o := ⟨some 25, .call ⟨.value (.func 80), #[.tmp 24], #[27]⟩, 96, "engine.go:123", #[⟨7, .data⟩], none⟩) rfl (fun K hK => ?_) AllReadyH.nil))
  · obtain ⟨-, -, -, -, c4, -⟩ := HE.out.ec
    rw [HV.out] at c4
    have hql := HE.out.lt
    go_simp
    refine hK.out _ _ (hHeld) (fun hHeld2 => ?_)
    clear hK K hHeld
    have hHeld := hHeld2
    clear hHeld2
    try simp only [Act.put, List.setIfInBounds_toArray, List.set_cons_zero, List.set_cons_succ]
    clear c4 hql
    refine wpAnyH_ready (rs := [8]) (by kernel_rfl) (by simp) ?_
    refine (AllReadyH.cons (o := ⟨some 25, .call ⟨.value (.func 80), #[.tmp 24], #[27]⟩, 96, "engine.go:123", #[⟨7, .data⟩], none⟩) rfl (fun K hK => ?_) AllReadyH.nil)
    obtain ⟨y, hy⟩ : ∃ y, y = wd.heap.size := ⟨_, rfl⟩
    have hnew := Lk.new_any now HNOW.out wd
    rw [← hy] at hnew
    go_simp
    with_reducible refine hnew.mono ?_
    rintro en wd2 ⟨rfl, hlk, B3⟩
    rw [hy] at B3
    have HY := Lib.hid (show w1.heap.size ≤ y by rw [hy]; exact hHeld.size)
    have HE2 := Lib.hid (HE.out.step B3)
    have HL := Lib.hid hlk
    refine hK.out _ _ (hHeld.step B3) (fun hHeld2 => ?_)
    clear hK K hHeld
    have hHeld := hHeld2
    clear hHeld2
    try simp only [Act.put, List.setIfInBounds_toArray, List.set_cons_zero, List.set_cons_succ]
    clear hlk B3 HE hnew hy
    generalize wd2 = wd at *
    have HE := HE2
    clear HE2
    refine wpAnyH_take (i := 9) (oi := ⟨some 26, .build 121 #[(0, .tmp 23), (1, .tmp 25)], 121, "engine.go:123", #[⟨6, .data⟩, ⟨8, .data⟩], none⟩) (v := .agg #[.int .i64 (x : Int), .pointer (some ⟨y, 0, none⟩)]) rfl (by kernel_rfl) (by kernel_rfl) (by kernel_rfl) (fun _ _ _ h => h) (Or.inl ⟨by rfl, fun w hSw => by go_simp⟩) (by assumption) ?_
    try simp only [Act.put, List.setIfInBounds_toArray, List.set_cons_zero, List.set_cons_succ]
    refine wpAnyH_ready (rs := [10]) (by kernel_rfl) (by simp) ?_
    refine (AllReadyH.cons (o := ⟨some 27, .buildSlice 91 1 #[(0, .tmp 26)], 91, "engine.go:123", #[⟨9, .data⟩], none⟩) rfl (fun K hK => ?_) AllReadyH.nil)
    have HZN := Lib.hid (HHS.out wd hHeld)
    go_simp
    refine hK.out _ _ (hHeld.step ((Below.refl _ _).alloc (Nat.le_refl _) (.cells #[.int .i64 (x : Int), .pointer (some ⟨y, 0, none⟩)] 121))) (fun hHeld2 => ?_)
    clear hK K hHeld
    have hHeld := hHeld2
    clear hHeld2
    try simp only [Act.put, List.setIfInBounds_toArray, List.set_cons_zero, List.set_cons_succ]
    have BA := (Below.refl wd.heap.size wd).alloc (Nat.le_refl _) (.cells #[.int .i64 (x : Int), .pointer (some ⟨y, 0, none⟩)] 121)
    have HZ := Lib.hid (heap_alloc_new wd (.cells #[.int .i64 (x : Int), .pointer (some ⟨y, 0, none⟩)] 121))
    have HE2 := Lib.hid (HE.out.step BA)
    have HL2 := Lib.hid (HL.out.keep (BA.block y HL.out.lt))
    clear BA HE HL
    generalize wd.alloc _ = wd3 at *
    generalize wd.heap.size = z at *
    generalize wd3 = wd at *
    have HE := HE2
    have HL := HL2
    clear HE2 HL2
    refine wpAnyH_ready (rs := [11]) (by kernel_rfl) (by simp) ?_
    refine (AllReadyH.cons (o := ⟨some 28, .call ⟨.value (.func 79), #[.tmp 21, .tmp 22, .tmp 27], #[91, 3, 91]⟩, 91, "engine.go:123", #[⟨4, .data⟩, ⟨5, .data⟩, ⟨10, .data⟩, ⟨8, .chain⟩], none⟩) rfl (fun K hK => ?_) AllReadyH.nil)
    have hz : m.vn.ownBlock ≠ some z := fun e9 => by
      obtain ⟨-, cur, hg⟩ := HE0.out.p.nbs.lt e9
      have := (Array.getElem?_eq_some_iff.1 hg).1
      have := HZN.out
      omega
    have cI : Calls Tryz.prog 79 #[.slice A k c, .int .i64 (P : Int), .slice (some ⟨z, 0, none⟩) 1 1] wd (InN.InsSaid wd lo m.vn ((nbz e m).take P ++ (x, y) :: (nbz e m).drop P)) := by
      rw [← HV.out]
      exact InN.ins_any wd lo m.vn (nbz e m) (x, y) P z HE.out.p.nbs HZ.out hz (by rw [nbz_len HE.out.p]; exact HPG.out.1) (by rw [nbz_len HE.out.p]; exact HPG2.out) HE.out.los
    go_simp
    with_reducible refine cI.mono ?_
    rintro en wd2 ⟨v5, rfl, O5, G5, L5⟩
    obtain ⟨A5, c5, hv5, -, -⟩ := O5.form
    have F5 : Fr (fun j => m.vn.ownBlock = some j) wd wd2 := Fr.grown G5 (fun j e => e)
    have hLK := HL.out.keep (F5.block y HL.out.lt (HE.out.p.nbs.ne HL.out (by decide)))
    have hRW := F5.row HE.out.row (fun e9 => (HE.out.apart).2.2.2.2.2.1 e9)
    have O5' := O5
    unfold InN.EOwn at O5'
    rw [HPG.out.2] at O5'
    have hP5 := HE.out.p.ins F5 O5' hLK (Nat.le_trans HLO2.out HY.out) (fun hm => by
      obtain ⟨l9, -, h9⟩ := HE0.out.p.lk hm
      have := h9.lt
      have := HY.out
      omega)
    obtain ⟨B6, C6, e7, -, hS6, -⟩ := gsl_of O5 (fun _ => rfl)
    have hn5 : P < ((nbz e m).take P ++ (x, y) :: (nbz e m).drop P).length := by
      have := HPG.out.1
      have := nbz_len HE.out.p
      simp only [List.length_append, List.length_take, List.length_cons, List.length_drop]; omega
    have hel : ((nbz e m).take P ++ (x, y) :: (nbz e m).drop P)[P]'hn5 = (x, y) := by
      have := HPG.out.1
      have := nbz_len HE.out.p
      rw [List.getElem_append_right (by rw [List.length_take]; omega)]
      simp only [List.length_take, Nat.min_eq_left (show P ≤ (nbz e m).length by omega), Nat.sub_self, List.getElem_cons_zero]
    obtain ⟨b6, o6, e6, hb6, hc6⟩ := hS6 P hn5
    rw [hel] at hc6
    have hAt := NbAt.of (e := (x, y)) hc6
    rw [hv5] at e7
    injection e7 with e8 e9 e10
    subst e8
    subst e10
    obtain ⟨n5, hn5'⟩ : ∃ n5, n5 = ((nbz e m).take P ++ (x, y) :: (nbz e m).drop P).length := ⟨_, rfl⟩
    rw [← hn5'] at hv5 hn5
    have HN5 := Lib.hid hn5
    have HP5 := Lib.hid (hv5 ▸ hP5)
    have HRW := Lib.hid hRW
    have HAT := Lib.hid (And.intro e6 (And.intro hb6 hAt))
    have HL5 : Hid ((Value.slice A5 n5 c5).ownBlock = m.vn.ownBlock ∨ ∃ z5, (Value.slice A5 n5 c5).ownBlock = some z5 ∧ w1.heap.size ≤ z5) := Lib.hid (by
      rw [← hv5]
      rcases L5 with h | h
      · exact Or.inl h
      · exact Or.inr ⟨_, h, HHS.out wd hHeld⟩)
    subst hv5
    refine hK.out _ _ (hHeld.trans (Fr.grown G5 (fun k e => Or.inr e))) (fun hHeld2 => ?_)
    clear hK K hHeld
    have hHeld := hHeld2
    clear hHeld2
    try simp only [Act.put, List.setIfInBounds_toArray, List.set_cons_zero, List.set_cons_succ]
    clear O5 O5' G5 L5 F5 hLK hRW hP5 hS6 hn5 hel e6 hb6 hc6 hAt hn5' cI hz HE HL HZ
    generalize wd2 = wd at *
    refine wpAnyH_take (i := 12) (oi := ⟨some 29, .nilCheck (.tmp 17), 0, "engine.go:123", #[⟨0, .data⟩, ⟨0, .phase⟩, ⟨1, .phase⟩, ⟨2, .phase⟩, ⟨3, .phase⟩, ⟨4, .phase⟩, ⟨5, .phase⟩, ⟨6, .phase⟩, ⟨7, .phase⟩, ⟨8, .phase⟩, ⟨9, .phase⟩, ⟨10, .phase⟩, ⟨11, .phase⟩], none⟩) (v := .pointer (some ⟨q, 0, none⟩)) rfl (by kernel_rfl) (by kernel_rfl) (by kernel_rfl) (fun _ _ _ h => h) (Or.inl ⟨by rfl, fun w hSw => by go_simp⟩) (by assumption) ?_
    try simp only [Act.put, List.setIfInBounds_toArray, List.set_cons_zero, List.set_cons_succ]
    refine wpAnyH_take (i := 13) (oi := ⟨some 30, .fieldAddr 95 (.tmp 29) 4, 0, "engine.go:123", #[⟨12, .data⟩, ⟨0, .phase⟩, ⟨1, .phase⟩, ⟨2, .phase⟩, ⟨3, .phase⟩, ⟨4, .phase⟩, ⟨5, .phase⟩, ⟨6, .phase⟩, ⟨7, .phase⟩, ⟨8, .phase⟩, ⟨9, .phase⟩, ⟨10, .phase⟩, ⟨11, .phase⟩], none⟩) (v := .pointer (some ⟨q, 4, none⟩)) rfl (by kernel_rfl) (by kernel_rfl) (by kernel_rfl) (fun _ _ _ h => h) (Or.inl ⟨by rfl, fun w hSw => by go_simp⟩) (by assumption) ?_
    try simp only [Act.put, List.setIfInBounds_toArray, List.set_cons_zero, List.set_cons_succ]
    refine wpAnyH_ready (rs := [14]) (by kernel_rfl) (by simp) ?_
    refine (AllReadyH.cons (o := ⟨none, .store 91 (.tmp 30) (.tmp 28), 0, "engine.go:123", #[⟨13, .data⟩, ⟨11, .data⟩, ⟨11, .chain⟩, ⟨0, .phase⟩, ⟨1, .phase⟩, ⟨2, .phase⟩, ⟨3, .phase⟩, ⟨4, .phase⟩, ⟨5, .phase⟩, ⟨6, .phase⟩, ⟨7, .phase⟩, ⟨8, .phase⟩, ⟨9, .phase⟩, ⟨10, .phase⟩, ⟨11, .phase⟩], none⟩) rfl (fun K hK => ?_) AllReadyH.nil)
    have hc4 := cell_of_row wd q 4 _ 95 (0, 0) HRW.out
    have hf4 := frozen_of_row wd q 4 _ 95 HRW.out
    have hql := (Array.getElem?_eq_some_iff.1 HRW.out).1
    go_simp
    refine hK.out _ _ (hHeld.trans (Fr.grown (grown_setCell wd q 4 _) (fun k e => Or.inl (Option.some.inj e).symm))) (fun hHeld2 => ?_)
    clear hK K hHeld
    have hHeld := hHeld2
    clear hHeld2
    try simp only [Act.put, List.setIfInBounds_toArray, List.set_cons_zero, List.set_cons_succ]
    have hI := EngAt.put HRW.out HE0.out.le HP5.out 4 (.slice A5 n5 c5) rfl
    have hA6 : NbAt (wd.setCell ⟨q, 4, none⟩ (.slice A5 n5 c5)) b6 (o6 + P * 2) (x, y) := HAT.out.2.2.keep ((grown_setCell wd q 4 (.slice A5 n5 c5)).block b6 HAT.out.2.1 (fun e9 => by
      have e9 := Option.some.inj e9
      subst e9
      have h1 := HP5.out.nbs
      obtain ⟨-, cur, hg⟩ := h1.lt (b := b6) (by show (Value.slice A5 n5 c5).ownBlock = some b6; rw [HAT.out.1]; rfl)
      have h2 := HRW.out
      rw [hg] at h2; injection h2 with h2; injection h2 with _ h2 _; exact absurd h2 (by decide)))
    have HI := Lib.hid (And.intro hI (⟨b6, o6, HAT.out.1, hA6⟩ : ∃ b6 o6, A5 = some ⟨b6, o6, none⟩ ∧ NbAt (wd.setCell ⟨q, 4, none⟩ (.slice A5 n5 c5)) b6 (o6 + P * 2) (x, y)))
    clear hI hA6 hc4 hf4 hql HP5 HRW HAT
    generalize wd.setCell _ _ = wd9 at *
    generalize wd9 = wd at *
    refine wpAnyH_done (by kernel_rfl) ?_ _
    try unfold NoPanic
    have HJ := HI.out
    have c4 := HJ.1.ec.c4
    have hql := HJ.1.lt
    change _ = some (Value.slice A5 n5 c5) at c4
    obtain ⟨b6, o6, e6, hp6⟩ := HJ.2
    subst e6
    obtain ⟨k0, k1⟩ := hp6
    have HF := Lib.hid hHeld
    clear HJ hHeld
    have hpn : P < n5 := HN5.out
    go_wp2
    go_ret
    refine ⟨_, y, P, Lk.L.new now, rfl, HI.out.1, Ef.trans (Y := m.X q) (Ef.of HB.out HLO.out) (Ef.frm HF.out (by have := HB.out.size; have := HLO.out; omega) (fun k hk => ?_) (fun k hk => ?_)) (fun k hk => Or.inl hk), fun k hk => ?_, ?_, ?_⟩
    · rcases hk with rfl | hk
      · exact HE0.out.le
      · exact (HE0.out.p.nbs.lt hk).1
    · rcases hk with rfl | hk
      · exact Or.inl rfl
      · exact .inr (.inr (.inr (.inr (.inr (.inr (.inl hk))))))
    · rcases hk with hk | hk | hk | hk | hk | hk | hk | hk | hk | hk
      · exact .inl (.inl hk)
      · exact .inl (.inr (.inl hk))
      · exact .inl (.inr (.inr (.inl hk)))
      · change k ∈ m.ls.take _ ++ y :: m.ls.drop _ at hk
        rcases List.mem_append.1 hk with hk | hk
        · exact .inl (.inr (.inr (.inr (.inl (List.mem_of_mem_take hk)))))
        · rcases List.mem_cons.1 hk with rfl | hk
          · exact .inr (Nat.le_trans HB.out.size HY.out)
          · exact .inl (.inr (.inr (.inr (.inl (List.mem_of_mem_drop hk)))))
      · exact .inl (.inr (.inr (.inr (.inr (.inl hk)))))
      · exact .inl (.inr (.inr (.inr (.inr (.inr (.inl hk))))))
      · rcases HL5.out with h5 | ⟨z5, h5, h6⟩
        · exact .inl (.inr (.inr (.inr (.inr (.inr (.inr (.inl (h5.symm.trans hk))))))))
        · have hk := Option.some.inj (h5.symm.trans hk)
          exact .inr (by have := HB.out.size; omega)
      · exact .inl (.inr (.inr (.inr (.inr (.inr (.inr (.inr (.inl hk))))))))
      · exact .inl (.inr (.inr (.inr (.inr (.inr (.inr (.inr (.inr (.inl hk)))))))))
      · exact .inl (.inr (.inr (.inr (.inr (.inr (.inr (.inr (.inr (.inr hk)))))))))
    · have := HPG.out.1
      show (e.nb.take _ ++ (x, Lk.L.new now) :: e.nb.drop _)[P]? = some (x, Lk.L.new now)
      rw [← HPG.out.2, List.getElem?_append_right (by rw [List.length_take]; omega), List.length_take, Nat.min_eq_left (by omega), Nat.sub_self]
      rfl
    · have := HPG.out.1
      have := HE0.out.p.lsl
      show (m.ls.take _ ++ y :: m.ls.drop _)[P]? = some y
      rw [← HPG.out.2, List.getElem?_append_right (by rw [List.length_take]; omega), List.length_take, Nat.min_eq_left (by omega), Nat.sub_self]
      rfl
  · obtain ⟨y, hy⟩ : ∃ y, y = wd.heap.size := ⟨_, rfl⟩
    have hnew := Lk.new_any now HNOW.out wd
    rw [← hy] at hnew
    go_simp
    with_reducible refine hnew.mono ?_
    rintro en wd2 ⟨rfl, hlk, B3⟩
    rw [hy] at B3
    have HY := Lib.hid (show w1.heap.size ≤ y by rw [hy]; exact hHeld.size)
    have HE2 := Lib.hid (HE.out.step B3)
    have HL := Lib.hid hlk
    refine hK.out _ _ (hHeld.step B3) (fun hHeld2 => ?_)
    clear hK K hHeld
    have hHeld := hHeld2
    clear hHeld2
    try simp only [Act.put, List.setIfInBounds_toArray, List.set_cons_zero, List.set_cons_succ]
    clear hlk B3 HE hnew hy
    generalize wd2 = wd at *
    have HE := HE2
    clear HE2
    refine wpAnyH_take (i := 9) (oi := ⟨some 26, .build 121 #[(0, .tmp 23), (1, .tmp 25)], 121, "engine.go:123", #[⟨6, .data⟩, ⟨8, .data⟩], none⟩) (v := .agg #[.int .i64 (x : Int), .pointer (some ⟨y, 0, none⟩)]) rfl (by kernel_rfl) (by kernel_rfl) (by kernel_rfl) (fun _ _ _ h => h) (Or.inl ⟨by rfl, fun w hSw => by go_simp⟩) (by assumption) ?_
    try simp only [Act.put, List.setIfInBounds_toArray, List.set_cons_zero, List.set_cons_succ]
    refine wpAnyH_ready (rs := [4, 10]) (by kernel_rfl) (by simp) ?_
    refine (AllReadyH.cons (o := ⟨some 21, .load 91 (.tmp 20), 91, "engine.go:123", #[⟨3, .data⟩], none⟩) rfl (fun K hK => ?_) (AllReadyH.cons (o := ⟨some 27, .buildSlice 91 1 #[(0, .tmp 26)], 91, "engine.go:123", #[⟨9, .data⟩], none⟩) rfl (fun K hK => ?_) AllReadyH.nil))
    · obtain ⟨-, -, -, -, c4, -⟩ := HE.out.ec
      rw [HV.out] at c4
      have hql := HE.out.lt
      go_simp
      refine hK.out _ _ (hHeld) (fun hHeld2 => ?_)
      clear hK K hHeld
      have hHeld := hHeld2
      clear hHeld2
      try simp only [Act.put, List.setIfInBounds_toArray, List.set_cons_zero, List.set_cons_succ]
      clear c4 hql
      refine wpAnyH_ready (rs := [10]) (by kernel_rfl) (by simp) ?_
      refine (AllReadyH.cons (o := ⟨some 27, .buildSlice 91 1 #[(0, .tmp 26)], 91, "engine.go:123", #[⟨9, .data⟩], none⟩) rfl (fun K hK => ?_) AllReadyH.nil)
      have HZN := Lib.hid (HHS.out wd hHeld)
      go_simp
      refine hK.out _ _ (hHeld.step ((Below.refl _ _).alloc (Nat.le_refl _) (.cells #[.int .i64 (x : Int), .pointer (some ⟨y, 0, none⟩)] 121))) (fun hHeld2 => ?_)
      clear hK K hHeld
      have hHeld := hHeld2
      clear hHeld2
      try simp only [Act.put, List.setIfInBounds_toArray, List.set_cons_zero, List.set_cons_succ]
      have BA := (Below.refl wd.heap.size wd).alloc (Nat.le_refl _) (.cells #[.int .i64 (x : Int), .pointer (some ⟨y, 0, none⟩)] 121)
      have HZ := Lib.hid (heap_alloc_new wd (.cells #[.int .i64 (x : Int), .pointer (some ⟨y, 0, none⟩)] 121))
      have HE2 := Lib.hid (HE.out.step BA)
      have HL2 := Lib.hid (HL.out.keep (BA.block y HL.out.lt))
      clear BA HE HL
      generalize wd.alloc _ = wd3 at *
      generalize wd.heap.size = z at *
      generalize wd3 = wd at *
      have HE := HE2
      have HL := HL2
      clear HE2 HL2
      refine wpAnyH_ready (rs := [11]) (by kernel_rfl) (by simp) ?_
      refine (AllReadyH.cons (o := ⟨some 28, .call ⟨.value (.func 79), #[.tmp 21, .tmp 22, .tmp 27], #[91, 3, 91]⟩, 91, "engine.go:123", #[⟨4, .data⟩, ⟨5, .data⟩, ⟨10, .data⟩, ⟨8, .chain⟩], none⟩) rfl (fun K hK => ?_) AllReadyH.nil)
      have hz : m.vn.ownBlock ≠ some z := fun e9 => by
        obtain ⟨-, cur, hg⟩ := HE0.out.p.nbs.lt e9
        have := (Array.getElem?_eq_some_iff.1 hg).1
        have := HZN.out
        omega
      have cI : Calls Tryz.prog 79 #[.slice A k c, .int .i64 (P : Int), .slice (some ⟨z, 0, none⟩) 1 1] wd (InN.InsSaid wd lo m.vn ((nbz e m).take P ++ (x, y) :: (nbz e m).drop P)) := by
        rw [← HV.out]
        exact InN.ins_any wd lo m.vn (nbz e m) (x, y) P z HE.out.p.nbs HZ.out hz (by rw [nbz_len HE.out.p]; exact HPG.out.1) (by rw [nbz_len HE.out.p]; exact HPG2.out) HE.out.los
      go_simp
      with_reducible refine cI.mono ?_
      rintro en wd2 ⟨v5, rfl, O5, G5, L5⟩
      obtain ⟨A5, c5, hv5, -, -⟩ := O5.form
      have F5 : Fr (fun j => m.vn.ownBlock = some j) wd wd2 := Fr.grown G5 (fun j e => e)
      have hLK := HL.out.keep (F5.block y HL.out.lt (HE.out.p.nbs.ne HL.out (by decide)))
      have hRW := F5.row HE.out.row (fun e9 => (HE.out.apart).2.2.2.2.2.1 e9)
      have O5' := O5
      unfold InN.EOwn at O5'
      rw [HPG.out.2] at O5'
      have hP5 := HE.out.p.ins F5 O5' hLK (Nat.le_trans HLO2.out HY.out) (fun hm => by
        obtain ⟨l9, -, h9⟩ := HE0.out.p.lk hm
        have := h9.lt
        have := HY.out
        omega)
      obtain ⟨B6, C6, e7, -, hS6, -⟩ := gsl_of O5 (fun _ => rfl)
      have hn5 : P < ((nbz e m).take P ++ (x, y) :: (nbz e m).drop P).length := by
        have := HPG.out.1
        have := nbz_len HE.out.p
        simp only [List.length_append, List.length_take, List.length_cons, List.length_drop]; omega
      have hel : ((nbz e m).take P ++ (x, y) :: (nbz e m).drop P)[P]'hn5 = (x, y) := by
        have := HPG.out.1
        have := nbz_len HE.out.p
        rw [List.getElem_append_right (by rw [List.length_take]; omega)]
        simp only [List.length_take, Nat.min_eq_left (show P ≤ (nbz e m).length by omega), Nat.sub_self, List.getElem_cons_zero]
      obtain ⟨b6, o6, e6, hb6, hc6⟩ := hS6 P hn5
      rw [hel] at hc6
      have hAt := NbAt.of (e := (x, y)) hc6
      rw [hv5] at e7
      injection e7 with e8 e9 e10
      subst e8
      subst e10
      obtain ⟨n5, hn5'⟩ : ∃ n5, n5 = ((nbz e m).take P ++ (x, y) :: (nbz e m).drop P).length := ⟨_, rfl⟩
      rw [← hn5'] at hv5 hn5
      have HN5 := Lib.hid hn5
      have HP5 := Lib.hid (hv5 ▸ hP5)
      have HRW := Lib.hid hRW
      have HAT := Lib.hid (And.intro e6 (And.intro hb6 hAt))
      have HL5 : Hid ((Value.slice A5 n5 c5).ownBlock = m.vn.ownBlock ∨ ∃ z5, (Value.slice A5 n5 c5).ownBlock = some z5 ∧ w1.heap.size ≤ z5) := Lib.hid (by
        rw [← hv5]
        rcases L5 with h | h
        · exact Or.inl h
        · exact Or.inr ⟨_, h, HHS.out wd hHeld⟩)
      subst hv5
      refine hK.out _ _ (hHeld.trans (Fr.grown G5 (fun k e => Or.inr e))) (fun hHeld2 => ?_)
      clear hK K hHeld
      have hHeld := hHeld2
      clear hHeld2
      try simp only [Act.put, List.setIfInBounds_toArray, List.set_cons_zero, List.set_cons_succ]
      clear O5 O5' G5 L5 F5 hLK hRW hP5 hS6 hn5 hel e6 hb6 hc6 hAt hn5' cI hz HE HL HZ
      generalize wd2 = wd at *
      refine wpAnyH_take (i := 12) (oi := ⟨some 29, .nilCheck (.tmp 17), 0, "engine.go:123", #[⟨0, .data⟩, ⟨0, .phase⟩, ⟨1, .phase⟩, ⟨2, .phase⟩, ⟨3, .phase⟩, ⟨4, .phase⟩, ⟨5, .phase⟩, ⟨6, .phase⟩, ⟨7, .phase⟩, ⟨8, .phase⟩, ⟨9, .phase⟩, ⟨10, .phase⟩, ⟨11, .phase⟩], none⟩) (v := .pointer (some ⟨q, 0, none⟩)) rfl (by kernel_rfl) (by kernel_rfl) (by kernel_rfl) (fun _ _ _ h => h) (Or.inl ⟨by rfl, fun w hSw => by go_simp⟩) (by assumption) ?_
      try simp only [Act.put, List.setIfInBounds_toArray, List.set_cons_zero, List.set_cons_succ]
      refine wpAnyH_take (i := 13) (oi := ⟨some 30, .fieldAddr 95 (.tmp 29) 4, 0, "engine.go:123", #[⟨12, .data⟩, ⟨0, .phase⟩, ⟨1, .phase⟩, ⟨2, .phase⟩, ⟨3, .phase⟩, ⟨4, .phase⟩, ⟨5, .phase⟩, ⟨6, .phase⟩, ⟨7, .phase⟩, ⟨8, .phase⟩, ⟨9, .phase⟩, ⟨10, .phase⟩, ⟨11, .phase⟩], none⟩) (v := .pointer (some ⟨q, 4, none⟩)) rfl (by kernel_rfl) (by kernel_rfl) (by kernel_rfl) (fun _ _ _ h => h) (Or.inl ⟨by rfl, fun w hSw => by go_simp⟩) (by assumption) ?_
      try simp only [Act.put, List.setIfInBounds_toArray, List.set_cons_zero, List.set_cons_succ]
      refine wpAnyH_ready (rs := [14]) (by kernel_rfl) (by simp) ?_
      refine (AllReadyH.cons (o := ⟨none, .store 91 (.tmp 30) (.tmp 28), 0, "engine.go:123", #[⟨13, .data⟩, ⟨11, .data⟩, ⟨11, .chain⟩, ⟨0, .phase⟩, ⟨1, .phase⟩, ⟨2, .phase⟩, ⟨3, .phase⟩, ⟨4, .phase⟩, ⟨5, .phase⟩, ⟨6, .phase⟩, ⟨7, .phase⟩, ⟨8, .phase⟩, ⟨9, .phase⟩, ⟨10, .phase⟩, ⟨11, .phase⟩], none⟩) rfl (fun K hK => ?_) AllReadyH.nil)
      have hc4 := cell_of_row wd q 4 _ 95 (0, 0) HRW.out
      have hf4 := frozen_of_row wd q 4 _ 95 HRW.out
      have hql := (Array.getElem?_eq_some_iff.1 HRW.out).1
      go_simp
      refine hK.out _ _ (hHeld.trans (Fr.grown (grown_setCell wd q 4 _) (fun k e => Or.inl (Option.some.inj e).symm))) (fun hHeld2 => ?_)
      clear hK K hHeld
      have hHeld := hHeld2
      clear hHeld2
      try simp only [Act.put, List.setIfInBounds_toArray, List.set_cons_zero, List.set_cons_succ]
      have hI := EngAt.put HRW.out HE0.out.le HP5.out 4 (.slice A5 n5 c5) rfl
      have hA6 : NbAt (wd.setCell ⟨q, 4, none⟩ (.slice A5 n5 c5)) b6 (o6 + P * 2) (x, y) := HAT.out.2.2.keep ((grown_setCell wd q 4 (.slice A5 n5 c5)).block b6 HAT.out.2.1 (fun e9 => by
        have e9 := Option.some.inj e9
        subst e9
        have h1 := HP5.out.nbs
        obtain ⟨-, cur, hg⟩ := h1.lt (b := b6) (by show (Value.slice A5 n5 c5).ownBlock = some b6; rw [HAT.out.1]; rfl)
        have h2 := HRW.out
        rw [hg] at h2; injection h2 with h2; injection h2 with _ h2 _; exact absurd h2 (by decide)))
      have HI := Lib.hid (And.intro hI (⟨b6, o6, HAT.out.1, hA6⟩ : ∃ b6 o6, A5 = some ⟨b6, o6, none⟩ ∧ NbAt (wd.setCell ⟨q, 4, none⟩ (.slice A5 n5 c5)) b6 (o6 + P * 2) (x, y)))
      clear hI hA6 hc4 hf4 hql HP5 HRW HAT
      generalize wd.setCell _ _ = wd9 at *
      generalize wd9 = wd at *
      refine wpAnyH_done (by kernel_rfl) ?_ _
      try unfold NoPanic
      have HJ := HI.out
      have c4 := HJ.1.ec.c4
      have hql := HJ.1.lt
      change _ = some (Value.slice A5 n5 c5) at c4
      obtain ⟨b6, o6, e6, hp6⟩ := HJ.2
      subst e6
      obtain ⟨k0, k1⟩ := hp6
      have HF := Lib.hid hHeld
      clear HJ hHeld
      have hpn : P < n5 := HN5.out
      go_wp2
      go_ret
      refine ⟨_, y, P, Lk.L.new now, rfl, HI.out.1, Ef.trans (Y := m.X q) (Ef.of HB.out HLO.out) (Ef.frm HF.out (by have := HB.out.size; have := HLO.out; omega) (fun k hk => ?_) (fun k hk => ?_)) (fun k hk => Or.inl hk), fun k hk => ?_, ?_, ?_⟩
      · rcases hk with rfl | hk
        · exact HE0.out.le
        · exact (HE0.out.p.nbs.lt hk).1
      · rcases hk with rfl | hk
        · exact Or.inl rfl
        · exact .inr (.inr (.inr (.inr (.inr (.inr (.inl hk))))))
      · rcases hk with hk | hk | hk | hk | hk | hk | hk | hk | hk | hk
        · exact .inl (.inl hk)
        · exact .inl (.inr (.inl hk))
        · exact .inl (.inr (.inr (.inl hk)))
        · change k ∈ m.ls.take _ ++ y :: m.ls.drop _ at hk
          rcases List.mem_append.1 hk with hk | hk
          · exact .inl (.inr (.inr (.inr (.inl (List.mem_of_mem_take hk)))))
          · rcases List.mem_cons.1 hk with rfl | hk
            · exact .inr (Nat.le_trans HB.out.size HY.out)
            · exact .inl (.inr (.inr (.inr (.inl (List.mem_of_mem_drop hk)))))
        · exact .inl (.inr (.inr (.inr (.inr (.inl hk)))))
        · exact .inl (.inr (.inr (.inr (.inr (.inr (.inl hk))))))
        · rcases HL5.out with h5 | ⟨z5, h5, h6⟩
          · exact .inl (.inr (.inr (.inr (.inr (.inr (.inr (.inl (h5.symm.trans hk))))))))
          · have hk := Option.some.inj (h5.symm.trans hk)
            exact .inr (by have := HB.out.size; omega)
        · exact .inl (.inr (.inr (.inr (.inr (.inr (.inr (.inr (.inl hk))))))))
        · exact .inl (.inr (.inr (.inr (.inr (.inr (.inr (.inr (.inr (.inl hk)))))))))
        · exact .inl (.inr (.inr (.inr (.inr (.inr (.inr (.inr (.inr (.inr hk)))))))))
      · have := HPG.out.1
        show (e.nb.take _ ++ (x, Lk.L.new now) :: e.nb.drop _)[P]? = some (x, Lk.L.new now)
        rw [← HPG.out.2, List.getElem?_append_right (by rw [List.length_take]; omega), List.length_take, Nat.min_eq_left (by omega), Nat.sub_self]
        rfl
      · have := HPG.out.1
        have := HE0.out.p.lsl
        show (m.ls.take _ ++ y :: m.ls.drop _)[P]? = some y
        rw [← HPG.out.2, List.getElem?_append_right (by rw [List.length_take]; omega), List.length_take, Nat.min_eq_left (by omega), Nat.sub_self]
        rfl
    · have HZN := Lib.hid (HHS.out wd hHeld)
      go_simp
      refine hK.out _ _ (hHeld.step ((Below.refl _ _).alloc (Nat.le_refl _) (.cells #[.int .i64 (x : Int), .pointer (some ⟨y, 0, none⟩)] 121))) (fun hHeld2 => ?_)
      clear hK K hHeld
      have hHeld := hHeld2
      clear hHeld2
      try simp only [Act.put, List.setIfInBounds_toArray, List.set_cons_zero, List.set_cons_succ]
      have BA := (Below.refl wd.heap.size wd).alloc (Nat.le_refl _) (.cells #[.int .i64 (x : Int), .pointer (some ⟨y, 0, none⟩)] 121)
      have HZ := Lib.hid (heap_alloc_new wd (.cells #[.int .i64 (x : Int), .pointer (some ⟨y, 0, none⟩)] 121))
      have HE2 := Lib.hid (HE.out.step BA)
      have HL2 := Lib.hid (HL.out.keep (BA.block y HL.out.lt))
      clear BA HE HL
      generalize wd.alloc _ = wd3 at *
      generalize wd.heap.size = z at *
      generalize wd3 = wd at *
      have HE := HE2
      have HL := HL2
      clear HE2 HL2
      refine wpAnyH_ready (rs := [4]) (by kernel_rfl) (by simp) ?_
      refine (AllReadyH.cons (o := ⟨some 21, .load 91 (.tmp 20), 91, "engine.go:123", #[⟨3, .data⟩], none⟩) rfl (fun K hK => ?_) AllReadyH.nil)
      obtain ⟨-, -, -, -, c4, -⟩ := HE.out.ec
      rw [HV.out] at c4
      have hql := HE.out.lt
      go_simp
      refine hK.out _ _ (hHeld) (fun hHeld2 => ?_)
      clear hK K hHeld
      have hHeld := hHeld2
      clear hHeld2
      try simp only [Act.put, List.setIfInBounds_toArray, List.set_cons_zero, List.set_cons_succ]
      clear c4 hql
      refine wpAnyH_ready (rs := [11]) (by kernel_rfl) (by simp) ?_
      refine (AllReadyH.cons (o := ⟨some 28, .call ⟨.value (.func 79), #[.tmp 21, .tmp 22, .tmp 27], #[91, 3, 91]⟩, 91, "engine.go:123", #[⟨4, .data⟩, ⟨5, .data⟩, ⟨10, .data⟩, ⟨8, .chain⟩], none⟩) rfl (fun K hK => ?_) AllReadyH.nil)
      have hz : m.vn.ownBlock ≠ some z := fun e9 => by
        obtain ⟨-, cur, hg⟩ := HE0.out.p.nbs.lt e9
        have := (Array.getElem?_eq_some_iff.1 hg).1
        have := HZN.out
        omega
      have cI : Calls Tryz.prog 79 #[.slice A k c, .int .i64 (P : Int), .slice (some ⟨z, 0, none⟩) 1 1] wd (InN.InsSaid wd lo m.vn ((nbz e m).take P ++ (x, y) :: (nbz e m).drop P)) := by
        rw [← HV.out]
        exact InN.ins_any wd lo m.vn (nbz e m) (x, y) P z HE.out.p.nbs HZ.out hz (by rw [nbz_len HE.out.p]; exact HPG.out.1) (by rw [nbz_len HE.out.p]; exact HPG2.out) HE.out.los
      go_simp
      with_reducible refine cI.mono ?_
      rintro en wd2 ⟨v5, rfl, O5, G5, L5⟩
      obtain ⟨A5, c5, hv5, -, -⟩ := O5.form
      have F5 : Fr (fun j => m.vn.ownBlock = some j) wd wd2 := Fr.grown G5 (fun j e => e)
      have hLK := HL.out.keep (F5.block y HL.out.lt (HE.out.p.nbs.ne HL.out (by decide)))
      have hRW := F5.row HE.out.row (fun e9 => (HE.out.apart).2.2.2.2.2.1 e9)
      have O5' := O5
      unfold InN.EOwn at O5'
      rw [HPG.out.2] at O5'
      have hP5 := HE.out.p.ins F5 O5' hLK (Nat.le_trans HLO2.out HY.out) (fun hm => by
        obtain ⟨l9, -, h9⟩ := HE0.out.p.lk hm
        have := h9.lt
        have := HY.out
        omega)
      obtain ⟨B6, C6, e7, -, hS6, -⟩ := gsl_of O5 (fun _ => rfl)
      have hn5 : P < ((nbz e m).take P ++ (x, y) :: (nbz e m).drop P).length := by
        have := HPG.out.1
        have := nbz_len HE.out.p
        simp only [List.length_append, List.length_take, List.length_cons, List.length_drop]; omega
      have hel : ((nbz e m).take P ++ (x, y) :: (nbz e m).drop P)[P]'hn5 = (x, y) := by
        have := HPG.out.1
        have := nbz_len HE.out.p
        rw [List.getElem_append_right (by rw [List.length_take]; omega)]
        simp only [List.length_take, Nat.min_eq_left (show P ≤ (nbz e m).length by omega), Nat.sub_self, List.getElem_cons_zero]
      obtain ⟨b6, o6, e6, hb6, hc6⟩ := hS6 P hn5
      rw [hel] at hc6
      have hAt := NbAt.of (e := (x, y)) hc6
      rw [hv5] at e7
      injection e7 with e8 e9 e10
      subst e8
      subst e10
      obtain ⟨n5, hn5'⟩ : ∃ n5, n5 = ((nbz e m).take P ++ (x, y) :: (nbz e m).drop P).length := ⟨_, rfl⟩
      rw [← hn5'] at hv5 hn5
      have HN5 := Lib.hid hn5
      have HP5 := Lib.hid (hv5 ▸ hP5)
      have HRW := Lib.hid hRW
      have HAT := Lib.hid (And.intro e6 (And.intro hb6 hAt))
      have HL5 : Hid ((Value.slice A5 n5 c5).ownBlock = m.vn.ownBlock ∨ ∃ z5, (Value.slice A5 n5 c5).ownBlock = some z5 ∧ w1.heap.size ≤ z5) := Lib.hid (by
        rw [← hv5]
        rcases L5 with h | h
        · exact Or.inl h
        · exact Or.inr ⟨_, h, HHS.out wd hHeld⟩)
      subst hv5
      refine hK.out _ _ (hHeld.trans (Fr.grown G5 (fun k e => Or.inr e))) (fun hHeld2 => ?_)
      clear hK K hHeld
      have hHeld := hHeld2
      clear hHeld2
      try simp only [Act.put, List.setIfInBounds_toArray, List.set_cons_zero, List.set_cons_succ]
      clear O5 O5' G5 L5 F5 hLK hRW hP5 hS6 hn5 hel e6 hb6 hc6 hAt hn5' cI hz HE HL HZ
      generalize wd2 = wd at *
      refine wpAnyH_take (i := 12) (oi := ⟨some 29, .nilCheck (.tmp 17), 0, "engine.go:123", #[⟨0, .data⟩, ⟨0, .phase⟩, ⟨1, .phase⟩, ⟨2, .phase⟩, ⟨3, .phase⟩, ⟨4, .phase⟩, ⟨5, .phase⟩, ⟨6, .phase⟩, ⟨7, .phase⟩, ⟨8, .phase⟩, ⟨9, .phase⟩, ⟨10, .phase⟩, ⟨11, .phase⟩], none⟩) (v := .pointer (some ⟨q, 0, none⟩)) rfl (by kernel_rfl) (by kernel_rfl) (by kernel_rfl) (fun _ _ _ h => h) (Or.inl ⟨by rfl, fun w hSw => by go_simp⟩) (by assumption) ?_
      try simp only [Act.put, List.setIfInBounds_toArray, List.set_cons_zero, List.set_cons_succ]
      refine wpAnyH_take (i := 13) (oi := ⟨some 30, .fieldAddr 95 (.tmp 29) 4, 0, "engine.go:123", #[⟨12, .data⟩, ⟨0, .phase⟩, ⟨1, .phase⟩, ⟨2, .phase⟩, ⟨3, .phase⟩, ⟨4, .phase⟩, ⟨5, .phase⟩, ⟨6, .phase⟩, ⟨7, .phase⟩, ⟨8, .phase⟩, ⟨9, .phase⟩, ⟨10, .phase⟩, ⟨11, .phase⟩], none⟩) (v := .pointer (some ⟨q, 4, none⟩)) rfl (by kernel_rfl) (by kernel_rfl) (by kernel_rfl) (fun _ _ _ h => h) (Or.inl ⟨by rfl, fun w hSw => by go_simp⟩) (by assumption) ?_
      try simp only [Act.put, List.setIfInBounds_toArray, List.set_cons_zero, List.set_cons_succ]
      refine wpAnyH_ready (rs := [14]) (by kernel_rfl) (by simp) ?_
      refine (AllReadyH.cons (o := ⟨none, .store 91 (.tmp 30) (.tmp 28), 0, "engine.go:123", #[⟨13, .data⟩, ⟨11, .data⟩, ⟨11, .chain⟩, ⟨0, .phase⟩, ⟨1, .phase⟩, ⟨2, .phase⟩, ⟨3, .phase⟩, ⟨4, .phase⟩, ⟨5, .phase⟩, ⟨6, .phase⟩, ⟨7, .phase⟩, ⟨8, .phase⟩, ⟨9, .phase⟩, ⟨10, .phase⟩, ⟨11, .phase⟩], none⟩) rfl (fun K hK => ?_) AllReadyH.nil)
      have hc4 := cell_of_row wd q 4 _ 95 (0, 0) HRW.out
      have hf4 := frozen_of_row wd q 4 _ 95 HRW.out
      have hql := (Array.getElem?_eq_some_iff.1 HRW.out).1
      go_simp
      refine hK.out _ _ (hHeld.trans (Fr.grown (grown_setCell wd q 4 _) (fun k e => Or.inl (Option.some.inj e).symm))) (fun hHeld2 => ?_)
      clear hK K hHeld
      have hHeld := hHeld2
      clear hHeld2
      try simp only [Act.put, List.setIfInBounds_toArray, List.set_cons_zero, List.set_cons_succ]
      have hI := EngAt.put HRW.out HE0.out.le HP5.out 4 (.slice A5 n5 c5) rfl
      have hA6 : NbAt (wd.setCell ⟨q, 4, none⟩ (.slice A5 n5 c5)) b6 (o6 + P * 2) (x, y) := HAT.out.2.2.keep ((grown_setCell wd q 4 (.slice A5 n5 c5)).block b6 HAT.out.2.1 (fun e9 => by
        have e9 := Option.some.inj e9
        subst e9
        have h1 := HP5.out.nbs
        obtain ⟨-, cur, hg⟩ := h1.lt (b := b6) (by show (Value.slice A5 n5 c5).ownBlock = some b6; rw [HAT.out.1]; rfl)
        have h2 := HRW.out
        rw [hg] at h2; injection h2 with h2; injection h2 with _ h2 _; exact absurd h2 (by decide)))
      have HI := Lib.hid (And.intro hI (⟨b6, o6, HAT.out.1, hA6⟩ : ∃ b6 o6, A5 = some ⟨b6, o6, none⟩ ∧ NbAt (wd.setCell ⟨q, 4, none⟩ (.slice A5 n5 c5)) b6 (o6 + P * 2) (x, y)))
      clear hI hA6 hc4 hf4 hql HP5 HRW HAT
      generalize wd.setCell _ _ = wd9 at *
      generalize wd9 = wd at *
      refine wpAnyH_done (by kernel_rfl) ?_ _
      try unfold NoPanic
      have HJ := HI.out
      have c4 := HJ.1.ec.c4
      have hql := HJ.1.lt
      change _ = some (Value.slice A5 n5 c5) at c4
      obtain ⟨b6, o6, e6, hp6⟩ := HJ.2
      subst e6
      obtain ⟨k0, k1⟩ := hp6
      have HF := Lib.hid hHeld
      clear HJ hHeld
      have hpn : P < n5 := HN5.out
      go_wp2
      go_ret
      refine ⟨_, y, P, Lk.L.new now, rfl, HI.out.1, Ef.trans (Y := m.X q) (Ef.of HB.out HLO.out) (Ef.frm HF.out (by have := HB.out.size; have := HLO.out; omega) (fun k hk => ?_) (fun k hk => ?_)) (fun k hk => Or.inl hk), fun k hk => ?_, ?_, ?_⟩
      · rcases hk with rfl | hk
        · exact HE0.out.le
        · exact (HE0.out.p.nbs.lt hk).1
      · rcases hk with rfl | hk
        · exact Or.inl rfl
        · exact .inr (.inr (.inr (.inr (.inr (.inr (.inl hk))))))
      · rcases hk with hk | hk | hk | hk | hk | hk | hk | hk | hk | hk
        · exact .inl (.inl hk)
        · exact .inl (.inr (.inl hk))
        · exact .inl (.inr (.inr (.inl hk)))
        · change k ∈ m.ls.take _ ++ y :: m.ls.drop _ at hk
          rcases List.mem_append.1 hk with hk | hk
          · exact .inl (.inr (.inr (.inr (.inl (List.mem_of_mem_take hk)))))
          · rcases List.mem_cons.1 hk with rfl | hk
            · exact .inr (Nat.le_trans HB.out.size HY.out)
            · exact .inl (.inr (.inr (.inr (.inl (List.mem_of_mem_drop hk)))))
        · exact .inl (.inr (.inr (.inr (.inr (.inl hk)))))
        · exact .inl (.inr (.inr (.inr (.inr (.inr (.inl hk))))))
        · rcases HL5.out with h5 | ⟨z5, h5, h6⟩
          · exact .inl (.inr (.inr (.inr (.inr (.inr (.inr (.inl (h5.symm.trans hk))))))))
          · have hk := Option.some.inj (h5.symm.trans hk)
            exact .inr (by have := HB.out.size; omega)
        · exact .inl (.inr (.inr (.inr (.inr (.inr (.inr (.inr (.inl hk))))))))
        · exact .inl (.inr (.inr (.inr (.inr (.inr (.inr (.inr (.inr (.inl hk)))))))))
        · exact .inl (.inr (.inr (.inr (.inr (.inr (.inr (.inr (.inr (.inr hk)))))))))
      · have := HPG.out.1
        show (e.nb.take _ ++ (x, Lk.L.new now) :: e.nb.drop _)[P]? = some (x, Lk.L.new now)
        rw [← HPG.out.2, List.getElem?_append_right (by rw [List.length_take]; omega), List.length_take, Nat.min_eq_left (by omega), Nat.sub_self]
        rfl
      · have := HPG.out.1
        have := HE0.out.p.lsl
        show (m.ls.take _ ++ y :: m.ls.drop _)[P]? = some y
        rw [← HPG.out.2, List.getElem?_append_right (by rw [List.length_take]; omega), List.length_take, Nat.min_eq_left (by omega), Nat.sub_self]
        rfl
end Go.Proofs.YtjbogjbopgcbhaaGreatDoor.Eg
namespace Go.Proofs.YtjbogjbopgcbhaaGreatDoor.Eg
open Pre Ser Rts
open Go.Proofs.YtjbogjbopgcbhaaGreatDoor.Src (row1 row2 Mk SrcAt)
open Go.Proofs.YtjbogjbopgcbhaaGreatDoor.Lk (LkAt)
open Go.ChangeShapes Go.WideShapes Go.ChangeAt Go.RowKit
set_option maxRecDepth 8000
set_option linter.unusedVariables false
set_option linter.unusedSimpArgs false
theorem meet_any (w : World) (lo q : Nat) (e : Eng) (m : Mem) (h : EngAt lo w q e m) (hok : e.Ok) (x now : Nat) (hnow : now ≤ 4611686018427387000) :
    Calls Tryz.prog 39 #[.pointer (some ⟨q, 0, none⟩), .int .i64 (x : Int), .int .u64 (now : Int)] w (MeetSaid lo w q m (e.meet x now) x) := by
  unfold Eng.meet
  by_cases hx : e.nb.any (fun y => y.1 == x) = true
  · rw [if_pos hx]
    obtain ⟨y, hy, hyx⟩ := List.any_eq_true.1 hx
    obtain ⟨i, hi, rfl⟩ := List.getElem_of_mem hy
    have hyx := eq_of_beq hyx
    have hil : i < m.ls.length := by rw [h.p.lsl]; exact hi
    have hc := meet_old w lo q e m h hok i m.ls[i] now hi (List.getElem?_eq_getElem hil)
    rw [hyx] at hc
    refine hc.mono ?_
    rintro en w' ⟨rfl, B⟩
    exact ⟨m, m.ls[i], i, (e.nb[i]).2, rfl, h.step B, Ef.of B h.los, fun k hk => Or.inl hk, by rw [List.getElem?_eq_getElem hi, ← hyx], List.getElem?_eq_getElem hil⟩
  · rw [if_neg hx]
    exact meet_new w lo q e m h hok x now hnow (fun y hy hyx => hx (List.any_eq_true.2 ⟨y, hy, by simpa using hyx⟩))
theorem EngAt.rts {lo : Nat} {w w' : World} {q : Nat} {e : Eng} {m : Mem} {L' : List E} {v' : Value} (h : EngAt lo w q e m) (R : RtsAt lo w' m.qr L' v') (F : Fr (Xr m.qr m.vL) w w') : EngAt lo w' q { e with L := L' } { m with vL := v' } := by
  obtain ⟨-, vs, hrs, -⟩ := h.p.src
  have hv := h.p.rts.own
  change GOwn 173 7 E.cl w lo m.vL e.L at hv
  have hY : ∀ {k : Nat} {x : Array Value} {t : TypeId}, w.heap[k]? = some (.cells x t (0, 0)) → t ≠ 177 → t ≠ 173 → ¬ Xr m.qr m.vL k := fun hk h1 h2 e9 => by
    rcases e9 with rfl | e9
    · exact row_ne hk h.p.rts.row h1 rfl
    · exact hv.ne hk h2 e9
  have hG : ∀ {α : Type} {t : TypeId} {j : Nat} {cl : α → List Value} {v : Value} {l : List α}, GOwn t j cl w lo v l → t ≠ 177 → t ≠ 173 → GOwn t j cl w' lo v l := fun hg h1 h2 => gfr hg F fun b hb => by
    obtain ⟨-, cur, hc⟩ := hg.lt hb
    exact hY hc h1 h2
  refine ⟨F.row h.row (hY h.row (by decide) (by decide)), h.le, ⟨hG h.p.own (by decide) (by decide), srcfr h.p.src F (hY hrs (by decide) (by decide)) (fun b es cl hb e9 => ?_), R, hG h.p.nbs (by decide) (by decide), h.p.lsl, fun x hx => ?_, h.p.nd, hG h.p.ch (by decide) (by decide), hG h.p.lost (by decide) (by decide), hG h.p.rq (by decide) (by decide), tabfr (lo := lo) h.p.tab F (fun e9 => ?_), h.p.lo0⟩⟩
  · rcases e9 with rfl | e9
    · rw [h.p.rts.row] at hb; cases hb
    · obtain ⟨-, cur, hc⟩ := hv.lt e9
      rw [hc] at hb; cases hb
  · obtain ⟨h1, h2⟩ := h.p.lks x hx
    exact ⟨h1, h2.keep (F.block x.2 h2.lt (hY h2 (by decide) (by decide)))⟩
  · have h0 := h.p.lo0
    rcases e9 with e9 | e9
    · have := h.p.rts.le; omega
    · have := (hv.lt e9).1; omega
theorem EngAt.mv {lo : Nat} {w w' : World} {q : Nat} {e : Eng} {m : Mem} {L' : List E} {ans en : Ending} (h : EngAt lo w q e m) (M : MvSaid lo w m.qr m.vL L' ans en w') : ES lo w q m { e with L := L' } w' := by
  obtain ⟨-, v', R, F, lt⟩ := M
  refine ⟨_, h.rts R F, Ef.frm F h.los (fun k hk => ?_) (fun k hk => ?_), fun k hk => ?_, rfl⟩
  · rcases hk with rfl | hk
    · exact h.p.rts.le
    · exact (GOwn.lt (t := 173) (k := 7) (cl := E.cl) h.p.rts.own hk).1
  · rcases hk with rfl | hk
    · exact .inr (.inr (.inl rfl))
    · exact .inr (.inr (.inr (.inr (.inr (.inl hk)))))
  · rcases hk with hk | hk | hk | hk | hk | hk | hk
    · exact .inl (.inl hk)
    · exact .inl (.inr (.inl hk))
    · exact .inl (.inr (.inr (.inl hk)))
    · exact .inl (.inr (.inr (.inr (.inl hk))))
    · exact .inl (.inr (.inr (.inr (.inr (.inl hk)))))
    · rcases lt with lt | lt
      · exact .inl (.inr (.inr (.inr (.inr (.inr (.inl (lt ▸ hk)))))))
      · exact .inr (lt k hk)
    · exact .inl (.inr (.inr (.inr (.inr (.inr (.inr hk))))))
def Eng.isOwn (e : Eng) (a n : Nat) : Bool := e.own.any (Hm.is a n)
def tellL (L : List E) (b now : Nat) (x : Pt) : List E := if x.m = 65535 then L.filter (fun e => !(e.key == key x.a x.l b)) else putE L ⟨x.a, x.l, b, x.d, x.s, x.m, now + 50⟩
def Eng.upd (e : Eng) (b now : Nat) (x : Pt) : Eng := if e.isOwn x.a x.l then e else { e with L := tellL e.L b now x }
structure Pt.Ok (x : Pt) : Prop where
  k : x.k < 256
  n : x.n < 4611686018427387904
  d : x.d < 16
  a : x.a < 4294967296
  l : x.l < 256
  r : Pre.right x.a x.l = true
  s : x.s < 65536
  m : x.m ≤ 65535
theorem tell_any (w : World) (lo q : Nat) (v : Value) (L : List E) (h : RtsAt lo w q L v) (hr : Rising L) (hlen : L.length ≤ 200) (hL : ∀ e ∈ L, e.Ok) (b now : Nat) (x : Pt) (hx : x.Ok) (hb : b < 16) (hnow : now < 4000000000000000000) :
    Calls Tryz.prog 82 #[.pointer (some ⟨q, 0, none⟩), .int .i64 (b : Int), .agg #[.int .u32 (x.a : Int), .int .u8 (x.l : Int)], .int .i64 (x.d : Int), .agg #[.int .u16 (x.s : Int), .int .u16 (x.m : Int)], .int .u64 (now : Int)] w (MvSaid lo w q v (tellL L b now x) (.returned (.int .i64 0))) := by
  unfold tellL
  by_cases hm : x.m = 65535
  · rw [if_pos hm]
    exact tell_end w lo q v L h hr hlen hL x.a x.l b x.d x.s x.m now hx.a hx.l hx.r hb hx.d hx.s hnow hm
  · rw [if_neg hm]
    exact tell_put w lo q v L h hr hlen hL x.a x.l b x.d x.s x.m now hx.a hx.l hx.r hb hx.d hx.s hnow (by have := hx.m; omega)
theorem row7 {w : World} {b : Nat} {t : TypeId} {x0 x1 x2 x3 x4 x5 x6 : Value} (h : w.heap[b]? = some (.cells #[x0, x1, x2, x3, x4, x5, x6] t (0, 0))) : w.cell? ⟨b, 0, none⟩ = some x0 ∧ w.cell? ⟨b, 1, none⟩ = some x1 ∧ w.cell? ⟨b, 2, none⟩ = some x2 ∧ w.cell? ⟨b, 3, none⟩ = some x3 ∧ w.cell? ⟨b, 4, none⟩ = some x4 ∧ w.cell? ⟨b, 5, none⟩ = some x5 ∧ w.cell? ⟨b, 6, none⟩ = some x6 ∧ ∀ i, w.frozen? ⟨b, i, none⟩ = false :=
  ⟨cell_of_row w b 0 _ t (0, 0) h, cell_of_row w b 1 _ t (0, 0) h, cell_of_row w b 2 _ t (0, 0) h, cell_of_row w b 3 _ t (0, 0) h, cell_of_row w b 4 _ t (0, 0) h, cell_of_row w b 5 _ t (0, 0) h, cell_of_row w b 6 _ t (0, 0) h, fun i => frozen_of_row w b i _ t h⟩
theorem upd_own (w : World) (lo q : Nat) (e : Eng) (m : Mem) (h : EngAt lo w q e m) (hok : e.Ok) (b now : Nat) (x : Pt) (ho : e.isOwn x.a x.l = true) :
    Calls Tryz.prog 42 #[.pointer (some ⟨q, 0, none⟩), .int .i64 (b : Int), .agg #[.int .u8 (x.k : Int), .int .u64 (x.n : Int), .int .i64 (x.d : Int), .int .u32 (x.a : Int), .int .u8 (x.l : Int), .int .u16 (x.s : Int), .int .u16 (x.m : Int)], .int .u64 (now : Int)] w fun en w' => en = .returned (.tuple #[]) ∧ Below w.heap.size w w' := by
  have B0 := (Below.refl w.heap.size w).alloc (Nat.le_refl _) (.cells #[.int .u8 (x.k : Int), .int .u64 (x.n : Int), .int .i64 (x.d : Int), .int .u32 (x.a : Int), .int .u8 (x.l : Int), .int .u16 (x.s : Int), .int .u16 (x.m : Int)] 32)
  have r0 := heap_alloc_new w (.cells #[.int .u8 (x.k : Int), .int .u64 (x.n : Int), .int .i64 (x.d : Int), .int .u32 (x.a : Int), .int .u8 (x.l : Int), .int .u16 (x.s : Int), .int .u16 (x.m : Int)] 32)
  obtain ⟨i, hi, hii, hg⟩ : ∃ i, ∃ hi : i < e.own.length, (e.own[i]).is x.a x.l = true ∧ gidx (Hm.is x.a x.l) e.own = (i : Int) := by
    have hl := List.findIdx_lt_length.2 (List.any_eq_true.1 ho)
    refine ⟨e.own.findIdx (Hm.is x.a x.l), hl, List.findIdx_getElem (w := hl), ?_⟩
    unfold gidx
    rw [if_pos (show e.own.any (Hm.is x.a x.l) = true from ho)]
  obtain ⟨A, c, hv, -, hs, hA⟩ := gsl_of h.p.own (fun _ => rfl)
  obtain ⟨bb, oo, e1, -, -⟩ := hs i hi
  have hc := home_some _ lo q e m (h.step B0) x.a x.l (by have := hok.owl; omega) i bb (hA bb oo e1).1 hg hi
  obtain ⟨p0, p1, p2, p3, p4, p5, p6, -⟩ := row7 r0
  have HC := Lib.hid (And.intro hc B0)
  clear hc B0 r0 hv hs hA e1 hg hii hi h hok ho
  go_enter Tryz.func42, Tryz.ntmps42
  go_wp2_with (go_at_call 74; (with_reducible refine HC.out.1.mono ?_); rintro en w' ⟨rfl, B⟩; have HB := Lib.hid (HC.out.2.trans (B.mono HC.out.2.size)); clear B p0 p1 p2 p3 p4 p5 p6)
  exact bodyPost_ret (v := .tuple #[]) (by simp [results, Tryz.results42, go_sem]) rfl ⟨rfl, HB.out⟩
set_option maxHeartbeats 1000000 in
theorem upd_other (w : World) (lo q : Nat) (e : Eng) (m : Mem) (h : EngAt lo w q e m) (hok : e.Ok) (b now : Nat) (x : Pt) (hx : x.Ok) (hb : b < 16) (hnow : now < 4000000000000000000) (ho : e.isOwn x.a x.l = false) :
    Calls Tryz.prog 42 #[.pointer (some ⟨q, 0, none⟩), .int .i64 (b : Int), .agg #[.int .u8 (x.k : Int), .int .u64 (x.n : Int), .int .i64 (x.d : Int), .int .u32 (x.a : Int), .int .u8 (x.l : Int), .int .u16 (x.s : Int), .int .u16 (x.m : Int)], .int .u64 (now : Int)] w fun en w' => en = .returned (.tuple #[]) ∧ ES lo w q m { e with L := tellL e.L b now x } w' := by
  have B0 := (Below.refl w.heap.size w).alloc (Nat.le_refl _) (.cells #[.int .u8 (x.k : Int), .int .u64 (x.n : Int), .int .i64 (x.d : Int), .int .u32 (x.a : Int), .int .u8 (x.l : Int), .int .u16 (x.s : Int), .int .u16 (x.m : Int)] 32)
  have r0 := heap_alloc_new w (.cells #[.int .u8 (x.k : Int), .int .u64 (x.n : Int), .int .i64 (x.d : Int), .int .u32 (x.a : Int), .int .u8 (x.l : Int), .int .u16 (x.s : Int), .int .u16 (x.m : Int)] 32)
  have hc := home_none _ lo q e m (h.step B0) x.a x.l (by have := hok.owl; omega) ho
  obtain ⟨p0, p1, p2, p3, p4, p5, p6, -⟩ := row7 r0
  have HC := Lib.hid (And.intro hc (And.intro B0 r0))
  have HHS := Lib.hid (fun W (B : Below w.heap.size w W) => h.step B)
  have HLO := Lib.hid h.los
  have HT := Lib.hid (fun W (hE : EngAt lo W q e m) => tell_any W lo m.qr m.vL e.L hE.p.rts hok.ri hok.lle hok.lok b now x hx hb hnow)
  clear hc B0 r0 hok ho hx hb hnow
  go_enter Tryz.func42, Tryz.ntmps42
  go_upto_region 2 with (go_at_call 74; (with_reducible refine HC.out.1.mono ?_); rintro en w1 ⟨rfl, B⟩; have HB := Lib.hid (HC.out.2.1.trans (B.mono HC.out.2.1.size)); have HR0 := Lib.hid (brow B HC.out.2.2); clear B p0 p1 p2 p3 p4 p5 p6)
  have hE1 := HHS.out w1 HB.out
  have hY : ∀ {k : Nat} {y : Array Value} {t : TypeId}, w1.heap[k]? = some (.cells y t (0, 0)) → t ≠ 177 → t ≠ 173 → ¬ Xr m.qr m.vL k := fun hk h1 h2 e9 => by
    rcases e9 with rfl | e9
    · exact row_ne hk hE1.p.rts.row h1 rfl
    · exact GOwn.ne (t := 173) (k := 7) (cl := E.cl) hE1.p.rts.own hk h2 e9
  have HQ := Lib.hid (And.intro hE1.row (hY hE1.row (by decide) (by decide)))
  have HR := Lib.hid (And.intro HR0.out (hY HR0.out (by decide) (by decide)))
  have hB1 := HB.out
  have HE := Lib.hid (And.intro (hE1.step ((Below.refl _ w1).drew)) (hB1.trans (((Below.refl _ w1).drew).mono hB1.size)))
  clear hE1 hY h HC HHS HR0 HB hB1
  refine wp_region_noPanic ?_
  refine wp_region_held_drew (S := fun y : World => Fr (Xr m.qr m.vL) w1 y) (by kernel_rfl) (Fr.of ((Below.refl _ w1).drew)) (fun hHeld => ?_)
  generalize w1.drew = wd at *
  refine wpAnyH_take (i := 0) (oi := ⟨some 13, .move (.tmp 0), 24, "engine.go:138", #[], none⟩) (v := .pointer (some ⟨q, 0, none⟩)) rfl (by kernel_rfl) (by kernel_rfl) (by kernel_rfl) (fun _ _ _ h => h) (Or.inl ⟨by rfl, fun w hSw => by go_simp⟩) (by assumption) ?_
  try simp only [Act.put, List.setIfInBounds_toArray, List.set_cons_zero, List.set_cons_succ]
  refine wpAnyH_take (i := 1) (oi := ⟨some 14, .nilCheck (.tmp 13), 0, "engine.go:138", #[⟨0, .data⟩], none⟩) (v := .pointer (some ⟨q, 0, none⟩)) rfl (by kernel_rfl) (by kernel_rfl) (by kernel_rfl) (fun _ _ _ h => h) (Or.inl ⟨by rfl, fun w hSw => by go_simp⟩) (by assumption) ?_
  try simp only [Act.put, List.setIfInBounds_toArray, List.set_cons_zero, List.set_cons_succ]
  refine wpAnyH_take (i := 2) (oi := ⟨some 15, .fieldAddr 95 (.tmp 14) 3, 0, "engine.go:138", #[⟨1, .data⟩], none⟩) (v := .pointer (some ⟨q, 3, none⟩)) rfl (by kernel_rfl) (by kernel_rfl) (by kernel_rfl) (fun _ _ _ h => h) (Or.inl ⟨by rfl, fun w hSw => by go_simp⟩) (by assumption) ?_
  try simp only [Act.put, List.setIfInBounds_toArray, List.set_cons_zero, List.set_cons_succ]
  refine wpAnyH_take (i := 3) (oi := ⟨some 16, .load 90 (.tmp 15), 90, "engine.go:138", #[⟨2, .data⟩], none⟩) (v := .pointer (some ⟨m.qr, 0, none⟩)) rfl (by kernel_rfl) (by kernel_rfl) (by kernel_rfl) (fun _ _ _ h => h) (Or.inl ⟨by rfl, fun w hSw => by have c3 : _ = some (Value.pointer (some ⟨m.qr, 0, none⟩)) := cell_of_row _ q 3 _ 95 (0, 0) (hSw.row HQ.out.1 HQ.out.2); go_simp⟩) (by assumption) ?_
  try simp only [Act.put, List.setIfInBounds_toArray, List.set_cons_zero, List.set_cons_succ]
  refine wpAnyH_take (i := 4) (oi := ⟨some 17, .move (.tmp 1), 3, "engine.go:138", #[], none⟩) (v := .int .i64 (b : Int)) rfl (by kernel_rfl) (by kernel_rfl) (by kernel_rfl) (fun _ _ _ h => h) (Or.inl ⟨by rfl, fun w hSw => by go_simp⟩) (by assumption) ?_
  try simp only [Act.put, List.setIfInBounds_toArray, List.set_cons_zero, List.set_cons_succ]
  refine wpAnyH_take (i := 5) (oi := ⟨some 18, .fieldAddr 32 (.tmp 6) 3, 0, "engine.go:138", #[], none⟩) (v := .pointer (some ⟨w.heap.size, 3, none⟩)) rfl (by kernel_rfl) (by kernel_rfl) (by kernel_rfl) (fun _ _ _ h => h) (Or.inl ⟨by rfl, fun w hSw => by go_simp⟩) (by assumption) ?_
  try simp only [Act.put, List.setIfInBounds_toArray, List.set_cons_zero, List.set_cons_succ]
  refine wpAnyH_take (i := 6) (oi := ⟨some 19, .load 30 (.tmp 18), 30, "engine.go:138", #[⟨5, .data⟩], none⟩) (v := .agg #[.int .u32 (x.a : Int), .int .u8 (x.l : Int)]) rfl (by kernel_rfl) (by kernel_rfl) (by kernel_rfl) (fun _ _ _ h => h) (Or.inl ⟨by rfl, fun w hSw => by obtain ⟨p0, p1, p2, p3, p4, p5, p6, -⟩ := row7 (hSw.row HR.out.1 HR.out.2); go_simp⟩) (by assumption) ?_
  try simp only [Act.put, List.setIfInBounds_toArray, List.set_cons_zero, List.set_cons_succ]
  refine wpAnyH_take (i := 7) (oi := ⟨some 20, .fieldAddr 32 (.tmp 6) 2, 0, "engine.go:138", #[], none⟩) (v := .pointer (some ⟨w.heap.size, 2, none⟩)) rfl (by kernel_rfl) (by kernel_rfl) (by kernel_rfl) (fun _ _ _ h => h) (Or.inl ⟨by rfl, fun w hSw => by go_simp⟩) (by assumption) ?_
  try simp only [Act.put, List.setIfInBounds_toArray, List.set_cons_zero, List.set_cons_succ]
  refine wpAnyH_take (i := 8) (oi := ⟨some 21, .load 3 (.tmp 20), 3, "engine.go:138", #[⟨7, .data⟩], none⟩) (v := .int .i64 (x.d : Int)) rfl (by kernel_rfl) (by kernel_rfl) (by kernel_rfl) (fun _ _ _ h => h) (Or.inl ⟨by rfl, fun w hSw => by obtain ⟨p0, p1, p2, p3, p4, p5, p6, -⟩ := row7 (hSw.row HR.out.1 HR.out.2); go_simp⟩) (by assumption) ?_
  try simp only [Act.put, List.setIfInBounds_toArray, List.set_cons_zero, List.set_cons_succ]
  refine wpAnyH_take (i := 9) (oi := ⟨some 22, .fieldAddr 32 (.tmp 6) 4, 0, "engine.go:138", #[], none⟩) (v := .pointer (some ⟨w.heap.size, 5, none⟩)) rfl (by kernel_rfl) (by kernel_rfl) (by kernel_rfl) (fun _ _ _ h => h) (Or.inl ⟨by rfl, fun w hSw => by go_simp⟩) (by assumption) ?_
  try simp only [Act.put, List.setIfInBounds_toArray, List.set_cons_zero, List.set_cons_succ]
  refine wpAnyH_take (i := 10) (oi := ⟨some 23, .load 22 (.tmp 22), 22, "engine.go:138", #[⟨9, .data⟩], none⟩) (v := .int .u16 (x.s : Int)) rfl (by kernel_rfl) (by kernel_rfl) (by kernel_rfl) (fun _ _ _ h => h) (Or.inl ⟨by rfl, fun w hSw => by obtain ⟨p0, p1, p2, p3, p4, p5, p6, -⟩ := row7 (hSw.row HR.out.1 HR.out.2); go_simp⟩) (by assumption) ?_
  try simp only [Act.put, List.setIfInBounds_toArray, List.set_cons_zero, List.set_cons_succ]
  refine wpAnyH_take (i := 11) (oi := ⟨some 24, .fieldAddr 32 (.tmp 6) 5, 0, "engine.go:138", #[], none⟩) (v := .pointer (some ⟨w.heap.size, 6, none⟩)) rfl (by kernel_rfl) (by kernel_rfl) (by kernel_rfl) (fun _ _ _ h => h) (Or.inl ⟨by rfl, fun w hSw => by go_simp⟩) (by assumption) ?_
  try simp only [Act.put, List.setIfInBounds_toArray, List.set_cons_zero, List.set_cons_succ]
  refine wpAnyH_take (i := 12) (oi := ⟨some 25, .load 22 (.tmp 24), 22, "engine.go:138", #[⟨11, .data⟩], none⟩) (v := .int .u16 (x.m : Int)) rfl (by kernel_rfl) (by kernel_rfl) (by kernel_rfl) (fun _ _ _ h => h) (Or.inl ⟨by rfl, fun w hSw => by obtain ⟨p0, p1, p2, p3, p4, p5, p6, -⟩ := row7 (hSw.row HR.out.1 HR.out.2); go_simp⟩) (by assumption) ?_
  try simp only [Act.put, List.setIfInBounds_toArray, List.set_cons_zero, List.set_cons_succ]
  refine wpAnyH_take (i := 13) (oi := ⟨some 26, .build 48 #[(0, .tmp 23), (1, .tmp 25)], 48, "engine.go:138", #[⟨10, .data⟩, ⟨12, .data⟩], none⟩) (v := .agg #[.int .u16 (x.s : Int), .int .u16 (x.m : Int)]) rfl (by kernel_rfl) (by kernel_rfl) (by kernel_rfl) (fun _ _ _ h => h) (Or.inl ⟨by rfl, fun w hSw => by go_simp⟩) (by assumption) ?_
  try simp only [Act.put, List.setIfInBounds_toArray, List.set_cons_zero, List.set_cons_succ]
  refine wpAnyH_take (i := 14) (oi := ⟨some 27, .move (.tmp 3), 27, "engine.go:138", #[], none⟩) (v := .int .u64 (now : Int)) rfl (by kernel_rfl) (by kernel_rfl) (by kernel_rfl) (fun _ _ _ h => h) (Or.inl ⟨by rfl, fun w hSw => by go_simp⟩) (by assumption) ?_
  try simp only [Act.put, List.setIfInBounds_toArray, List.set_cons_zero, List.set_cons_succ]
  refine wpAnyH_ready (rs := [15]) (by kernel_rfl) (by simp) ?_
  refine (AllReadyH.cons (o := ⟨some 28, .call ⟨.value (.func 82), #[.tmp 16, .tmp 17, .tmp 19, .tmp 21, .tmp 26, .tmp 27], #[90, 3, 30, 3, 48, 27]⟩, 142, "engine.go:138", #[⟨3, .data⟩, ⟨4, .data⟩, ⟨6, .data⟩, ⟨8, .data⟩, ⟨13, .data⟩, ⟨14, .data⟩], none⟩) rfl (fun K hK => ?_) AllReadyH.nil)
  have hct := HT.out wd HE.out.1
  go_simp
  with_reducible refine hct.mono ?_
  rintro en wd2 M
  obtain ⟨rfl, v5, R5, F5, L5⟩ := M
  refine hK.out _ _ (hHeld.trans F5) (fun hHeld2 => ?_)
  clear hK K hHeld
  have hHeld := hHeld2
  clear hHeld2
  try simp only [Act.put, List.setIfInBounds_toArray, List.set_cons_zero, List.set_cons_succ]
  have HM := Lib.hid (show MvSaid lo wd m.qr m.vL (tellL e.L b now x) (.returned (.int .i64 0)) (.returned (.int .i64 0)) wd2 from ⟨rfl, v5, R5, F5, L5⟩)
  clear R5 F5 L5 hct
  refine wpAnyH_take (i := 16) (oi := ⟨some 29, .binOp .eql 142 (.tmp 28) (.const (.int .i64 3)) 142, 4, "engine.go:138", #[⟨15, .data⟩], none⟩) (v := .bool false) rfl (by kernel_rfl) (by kernel_rfl) (by kernel_rfl) (fun _ _ _ h => h) (Or.inl ⟨by rfl, fun w hSw => by go_simp⟩) (by assumption) ?_
  try simp only [Act.put, List.setIfInBounds_toArray, List.set_cons_zero, List.set_cons_succ]
  refine wpAnyH_done (by kernel_rfl) ?_ _
  try unfold NoPanic
  go_wp2
  refine bodyPost_end (v := .tuple #[]) (by simp [results, Tryz.results42, go_sem]) rfl ⟨rfl, ?_⟩
  exact ES.trans (Ef.of HE.out.2 HLO.out) (fun k hk => Or.inl hk) HE.out.2.size (HE.out.1.mv HM.out)
theorem upd_any (w : World) (lo q : Nat) (e : Eng) (m : Mem) (h : EngAt lo w q e m) (hok : e.Ok) (b now : Nat) (x : Pt) (hx : x.Ok) (hb : b < 16) (hnow : now < 4000000000000000000) :
    Calls Tryz.prog 42 #[.pointer (some ⟨q, 0, none⟩), .int .i64 (b : Int), .agg #[.int .u8 (x.k : Int), .int .u64 (x.n : Int), .int .i64 (x.d : Int), .int .u32 (x.a : Int), .int .u8 (x.l : Int), .int .u16 (x.s : Int), .int .u16 (x.m : Int)], .int .u64 (now : Int)] w fun en w' => en = .returned (.tuple #[]) ∧ ES lo w q m (e.upd b now x) w' := by
  unfold Eng.upd
  cases ho : e.isOwn x.a x.l with
  | true =>
    refine (upd_own w lo q e m h hok b now x ho).mono ?_
    rintro en w' ⟨rfl, B⟩
    exact ⟨rfl, ES.of h B⟩
  | false => exact upd_other w lo q e m h hok b now x hx hb hnow ho
end Go.Proofs.YtjbogjbopgcbhaaGreatDoor.Eg
namespace Go.Proofs.YtjbogjbopgcbhaaGreatDoor.Eg
open Pre Ser Rts
open Go.Proofs.YtjbogjbopgcbhaaGreatDoor.Src (row1 row2 Mk SrcAt)
open Go.Proofs.YtjbogjbopgcbhaaGreatDoor.Lk (LkAt)
open Go.ChangeShapes Go.WideShapes Go.ChangeAt Go.RowKit
set_option maxRecDepth 8000
set_option linter.unusedVariables false
set_option linter.unusedSimpArgs false
theorem gflat_len {α : Type} {cl : α → List Value} {k : Nat} (hk : ∀ x, (cl x).length = k) : ∀ l : List α, (l.flatMap cl).length = l.length * k
  | [] => by simp
  | x :: l => by
    simp only [List.flatMap_cons, List.length_append, hk, gflat_len hk l, List.length_cons, Nat.succ_mul]
    omega
theorem gsl_flat {α : Type} {cl : α → List Value} {k : Nat} (hk : ∀ x, (cl x).length = k) (hk0 : 0 < k) {w : World} {A : Option Addr} {l : List α} (h : GSl k cl w A l) (hl : 0 < l.length) : ∃ a, A = some a ∧ ∀ j u, (l.flatMap cl)[j]? = some u → w.cell? (a.add j) = some u := by
  obtain ⟨b, o, e, -, -⟩ := h 0 hl
  refine ⟨_, e, fun j u hj => ?_⟩
  have hlt := (List.getElem?_eq_some_iff.1 hj).1
  rw [gflat_len hk] at hlt
  have h1 : j / k < l.length := (Nat.div_lt_iff_lt_mul hk0).2 hlt
  have h2 : j % k < k := Nat.mod_lt _ hk0
  have h3 : j / k * k + j % k = j := by rw [Nat.mul_comm]; exact Nat.div_add_mod j k
  rw [← h3, gflat_at hk l (j / k) (j % k) h1 h2] at hj
  obtain ⟨b', o', e', -, hc⟩ := h (j / k) h1
  rw [e] at e'; injection e' with e'; injection e' with e1 e2 _
  subst e1 e2
  rw [Addr.add_lit, ← hj, ← hc (j % k) h2, Nat.add_assoc, h3]
theorem gappm {α : Type} {t st : TypeId} {k by_ : Nat} {cl : α → List Value} {i0 : TypeInfo} {z : Value} (hu : Tryz.prog.underlying st = some (.slice t)) (hi : Tryz.prog.info? t = some i0) (hz0 : i0.zero = some z) (hz1 : i0.size = k) (hz2 : i0.bytes = by_) (hzc : z.cells.size = k) (hk0 : 0 < k) (hk : ∀ x, (cl x).length = k) (h1 : ∀ x, ∀ u ∈ cl x, u.oneCell' = true) (hby : by_ ≤ 100)
    (w : World) (B : Nat) (v : Value) (l ys : List α) (A : Option Addr) (m c : Nat) (hown : GOwn t k cl w B v l) (hm : m = ys.length) (hs : GSl k cl w A ys) (hA : A = none → c = 0) (hlen : l.length ≤ 1000) (hmn : m ≤ 1000) (hB : B ≤ w.heap.size) :
    ∃ v' w', (Builtin.append_ #[st, st] st #[v, .slice A m c]).run Tryz.prog w = .ok v' w' ∧ GOwn t k cl w' B v' (l ++ ys) ∧ w.grownBy w' v.ownBlock ∧ (v'.ownBlock = v.ownBlock ∨ v'.ownBlock = some w.heap.size) := by
  rcases A with _ | a
  · obtain rfl := hA rfl
    have hy : ys = [] := by
      rcases ys with _ | ⟨y, ys⟩
      · rfl
      · obtain ⟨b, o, e, -⟩ := hs 0 (by simp)
        cases e
    subst hy
    subst hm
    refine ⟨_, _, run_append_owned_none (P := Tryz.prog) (w := w) B st st t i0 k hu hi v l.length (l.flatMap cl) hown, by rw [List.append_nil]; exact hown, ⟨rfl, rfl, rfl, Nat.le_refl _, fun _ _ _ => rfl⟩, Or.inl rfl⟩
  · have hnews : ∀ j u, (ys.flatMap cl)[j]? = some u → w.cell? (a.add j) = some u := fun j u hj => by
      rcases Nat.eq_zero_or_pos ys.length with h0 | h0
      · rw [List.eq_nil_of_length_eq_zero h0] at hj; simp at hj
      · obtain ⟨a', e, hc⟩ := gsl_flat hk hk0 hs h0
        injection e with e; subst e
        exact hc j u hj
    have hby2 : (l.length + m) * by_ ≤ 140737488355328 := Nat.le_trans (Nat.mul_le_mul (show l.length + m ≤ 2000 by omega) hby) (by decide)
    obtain ⟨v', w', hrun, h2, h3, -, h5⟩ := run_append_own_at (P := Tryz.prog) w B st st t i0 z k by_ hu hi hz0 hz1 hz2 hzc hk0 v l.length (l.flatMap cl) hown a m c (ys.flatMap cl) (by rw [gflat_len hk, hm]) hnews (fun u hu => by
      obtain ⟨y, -, hy⟩ := List.mem_flatMap.1 hu
      exact h1 y u hy) (by unfold maxLen; omega) hby2 hB
    refine ⟨v', w', hrun, ?_, h3, h5⟩
    unfold GOwn
    rw [List.length_append, List.flatMap_append, ← hm]
    exact h2
theorem gsl_row {α : Type} {cl : α → List Value} {k : Nat} {w : World} {b : Nat} {t : TypeId} {x : α} (hr : w.heap[b]? = some (.cells (cl x).toArray t (0, 0))) : GSl k cl w (some ⟨b, 0, none⟩) [x] := fun j hj => by
  have : j = 0 := by simpa using hj
  subst this
  refine ⟨b, 0, rfl, (Array.getElem?_eq_some_iff.1 hr).1, fun i hi => ?_⟩
  rw [cell_of_row w b _ _ t (0, 0) hr]
  simp
def Moved (w : World) (v v' : Value) : Prop := v'.ownBlock = v.ownBlock ∨ ∀ b, v'.ownBlock = some b → w.heap.size ≤ b
theorem EngP.rq' {lo : Nat} {w w' : World} {e : Eng} {m : Mem} {l' : List Pt} {v' : Value} (h : EngP lo w e m) (F : Fr (fun k => m.vr.ownBlock = some k) w w') (O : GOwn 32 7 Pt.cl w' lo v' l') : EngP lo w' { e with rq := l' } { m with vr := v' } := by
  obtain ⟨-, vs, hrs, -⟩ := h.src
  have hY : ∀ {k : Nat} {o : Obj}, w.heap[k]? = some o → (∀ cur, o ≠ .cells cur 32 (0, 0)) → ¬ m.vr.ownBlock = some k := fun hk ho e => by
    obtain ⟨-, cur, hg⟩ := h.rq.lt e
    rw [hg] at hk; injection hk with hk
    exact ho _ hk.symm
  exact ⟨gfr h.own F fun b hb => (two h.own h.rq (by decide) hb), srcfr h.src F (h.rq.ne hrs (by decide)) (fun b es cl hb => hY hb (fun _ e => by cases e)), h.rts.fr F (h.rq.ne h.rts.row (by decide)) (fun b hb => two (t := 173) (k := 7) (cl := E.cl) h.rts.own h.rq (by decide) hb), gfr h.nbs F fun b hb => two h.nbs h.rq (by decide) hb, h.lsl, fun x hx => by
    obtain ⟨h1, h2⟩ := h.lks x hx
    exact ⟨h1, h2.keep (F.block x.2 h2.lt (h.rq.ne h2 (by decide)))⟩, h.nd, gfr h.ch F fun b hb => (two h.ch h.rq (by decide) hb), gfr h.lost F fun b hb => (two h.lost h.rq (by decide) hb), O, tabfr (lo := lo) h.tab F (fun e => by obtain ⟨h1, -⟩ := h.rq.lt e; have := h.lo0; omega), h.lo0⟩
theorem Mem.x_rq {w : World} {m : Mem} {v' : Value} {q k : Nat} (hv : Moved w m.vr v') (hk : ({ m with vr := v' } : Mem).X q k) : m.X q k ∨ w.heap.size ≤ k := by
  rcases hk with hk | hk | hk | hk | hk | hk | hk | hk | hk | hk
  · exact .inl (.inl hk)
  · exact .inl (.inr (.inl hk))
  · exact .inl (.inr (.inr (.inl hk)))
  · exact .inl (.inr (.inr (.inr (.inl hk))))
  · exact .inl (.inr (.inr (.inr (.inr (.inl hk)))))
  · exact .inl (.inr (.inr (.inr (.inr (.inr (.inl hk))))))
  · exact .inl (.inr (.inr (.inr (.inr (.inr (.inr (.inl hk)))))))
  · exact .inl (.inr (.inr (.inr (.inr (.inr (.inr (.inr (.inl hk))))))))
  · exact .inl (.inr (.inr (.inr (.inr (.inr (.inr (.inr (.inr (.inl hk)))))))))
  · rcases hv with lt | lt
    · have hk := lt.symm.trans hk
      exact .inl (.inr (.inr (.inr (.inr (.inr (.inr (.inr (.inr (.inr (hk))))))))))
    · exact .inr (lt k hk)
theorem EngP.lost' {lo : Nat} {w w' : World} {e : Eng} {m : Mem} {l' : List (Nat × Nat)} {v' : Value} (h : EngP lo w e m) (F : Fr (fun k => m.vl.ownBlock = some k) w w') (O : GOwn 30 2 clP w' lo v' l') : EngP lo w' { e with lost := l' } { m with vl := v' } := by
  obtain ⟨-, vs, hrs, -⟩ := h.src
  have hY : ∀ {k : Nat} {o : Obj}, w.heap[k]? = some o → (∀ cur, o ≠ .cells cur 30 (0, 0)) → ¬ m.vl.ownBlock = some k := fun hk ho e => by
    obtain ⟨-, cur, hg⟩ := h.lost.lt e
    rw [hg] at hk; injection hk with hk
    exact ho _ hk.symm
  exact ⟨gfr h.own F fun b hb => (two h.own h.lost (by decide) hb), srcfr h.src F (h.lost.ne hrs (by decide)) (fun b es cl hb => hY hb (fun _ e => by cases e)), h.rts.fr F (h.lost.ne h.rts.row (by decide)) (fun b hb => two (t := 173) (k := 7) (cl := E.cl) h.rts.own h.lost (by decide) hb), gfr h.nbs F fun b hb => two h.nbs h.lost (by decide) hb, h.lsl, fun x hx => by
    obtain ⟨h1, h2⟩ := h.lks x hx
    exact ⟨h1, h2.keep (F.block x.2 h2.lt (h.lost.ne h2 (by decide)))⟩, h.nd, gfr h.ch F fun b hb => (two h.ch h.lost (by decide) hb), O, gfr h.rq F fun b hb => (two h.rq h.lost (by decide) hb), tabfr (lo := lo) h.tab F (fun e => by obtain ⟨h1, -⟩ := h.lost.lt e; have := h.lo0; omega), h.lo0⟩
theorem Mem.x_lost {w : World} {m : Mem} {v' : Value} {q k : Nat} (hv : Moved w m.vl v') (hk : ({ m with vl := v' } : Mem).X q k) : m.X q k ∨ w.heap.size ≤ k := by
  rcases hk with hk | hk | hk | hk | hk | hk | hk | hk | hk | hk
  · exact .inl (.inl hk)
  · exact .inl (.inr (.inl hk))
  · exact .inl (.inr (.inr (.inl hk)))
  · exact .inl (.inr (.inr (.inr (.inl hk))))
  · exact .inl (.inr (.inr (.inr (.inr (.inl hk)))))
  · exact .inl (.inr (.inr (.inr (.inr (.inr (.inl hk))))))
  · exact .inl (.inr (.inr (.inr (.inr (.inr (.inr (.inl hk)))))))
  · exact .inl (.inr (.inr (.inr (.inr (.inr (.inr (.inr (.inl hk))))))))
  · rcases hv with lt | lt
    · have hk := lt.symm.trans hk
      exact .inl (.inr (.inr (.inr (.inr (.inr (.inr (.inr (.inr (.inl hk)))))))))
    · exact .inr (lt k hk)
  · exact .inl (.inr (.inr (.inr (.inr (.inr (.inr (.inr (.inr (.inr (hk))))))))))
theorem EngP.own' {lo : Nat} {w w' : World} {e : Eng} {m : Mem} {l' : List Hm} {v' : Value} (h : EngP lo w e m) (F : Fr (fun k => m.vo.ownBlock = some k) w w') (O : GOwn 134 3 Hm.cl w' lo v' l') : EngP lo w' { e with own := l' } { m with vo := v' } := by
  obtain ⟨-, vs, hrs, -⟩ := h.src
  have hY : ∀ {k : Nat} {o : Obj}, w.heap[k]? = some o → (∀ cur, o ≠ .cells cur 134 (0, 0)) → ¬ m.vo.ownBlock = some k := fun hk ho e => by
    obtain ⟨-, cur, hg⟩ := h.own.lt e
    rw [hg] at hk; injection hk with hk
    exact ho _ hk.symm
  exact ⟨O, srcfr h.src F (h.own.ne hrs (by decide)) (fun b es cl hb => hY hb (fun _ e => by cases e)), h.rts.fr F (h.own.ne h.rts.row (by decide)) (fun b hb => two (t := 173) (k := 7) (cl := E.cl) h.rts.own h.own (by decide) hb), gfr h.nbs F fun b hb => two h.nbs h.own (by decide) hb, h.lsl, fun x hx => by
    obtain ⟨h1, h2⟩ := h.lks x hx
    exact ⟨h1, h2.keep (F.block x.2 h2.lt (h.own.ne h2 (by decide)))⟩, h.nd, gfr h.ch F fun b hb => (two h.ch h.own (by decide) hb), gfr h.lost F fun b hb => (two h.lost h.own (by decide) hb), gfr h.rq F fun b hb => (two h.rq h.own (by decide) hb), tabfr (lo := lo) h.tab F (fun e => by obtain ⟨h1, -⟩ := h.own.lt e; have := h.lo0; omega), h.lo0⟩
theorem Mem.x_own {w : World} {m : Mem} {v' : Value} {q k : Nat} (hv : Moved w m.vo v') (hk : ({ m with vo := v' } : Mem).X q k) : m.X q k ∨ w.heap.size ≤ k := by
  rcases hk with hk | hk | hk | hk | hk | hk | hk | hk | hk | hk
  · exact .inl (.inl hk)
  · exact .inl (.inr (.inl hk))
  · exact .inl (.inr (.inr (.inl hk)))
  · exact .inl (.inr (.inr (.inr (.inl hk))))
  · rcases hv with lt | lt
    · have hk := lt.symm.trans hk
      exact .inl (.inr (.inr (.inr (.inr (.inl hk)))))
    · exact .inr (lt k hk)
  · exact .inl (.inr (.inr (.inr (.inr (.inr (.inl hk))))))
  · exact .inl (.inr (.inr (.inr (.inr (.inr (.inr (.inl hk)))))))
  · exact .inl (.inr (.inr (.inr (.inr (.inr (.inr (.inr (.inl hk))))))))
  · exact .inl (.inr (.inr (.inr (.inr (.inr (.inr (.inr (.inr (.inl hk)))))))))
  · exact .inl (.inr (.inr (.inr (.inr (.inr (.inr (.inr (.inr (.inr (hk))))))))))
theorem EngP.ch' {lo : Nat} {w w' : World} {e : Eng} {m : Mem} {l' : List Ro} {v' : Value} (h : EngP lo w e m) (F : Fr (fun k => m.vc.ownBlock = some k) w w') (O : GOwn 40 5 Ro.cl w' lo v' l') : EngP lo w' { e with ch := l' } { m with vc := v' } := by
  obtain ⟨-, vs, hrs, -⟩ := h.src
  have hY : ∀ {k : Nat} {o : Obj}, w.heap[k]? = some o → (∀ cur, o ≠ .cells cur 40 (0, 0)) → ¬ m.vc.ownBlock = some k := fun hk ho e => by
    obtain ⟨-, cur, hg⟩ := h.ch.lt e
    rw [hg] at hk; injection hk with hk
    exact ho _ hk.symm
  exact ⟨gfr h.own F fun b hb => (two h.own h.ch (by decide) hb), srcfr h.src F (h.ch.ne hrs (by decide)) (fun b es cl hb => hY hb (fun _ e => by cases e)), h.rts.fr F (h.ch.ne h.rts.row (by decide)) (fun b hb => two (t := 173) (k := 7) (cl := E.cl) h.rts.own h.ch (by decide) hb), gfr h.nbs F fun b hb => two h.nbs h.ch (by decide) hb, h.lsl, fun x hx => by
    obtain ⟨h1, h2⟩ := h.lks x hx
    exact ⟨h1, h2.keep (F.block x.2 h2.lt (h.ch.ne h2 (by decide)))⟩, h.nd, O, gfr h.lost F fun b hb => (two h.lost h.ch (by decide) hb), gfr h.rq F fun b hb => (two h.rq h.ch (by decide) hb), tabfr (lo := lo) h.tab F (fun e => by obtain ⟨h1, -⟩ := h.ch.lt e; have := h.lo0; omega), h.lo0⟩
theorem info32 : (Tryz.prog.info? 32).map (fun i => (i.zero, i.size, i.bytes)) = some (some (.agg #[.int .u8 0, .int .u64 0, .int .i64 0, .int .u32 0, .int .u8 0, .int .u16 0, .int .u16 0]), 7, 40) := by kernel_rfl
theorem pt_one (x : Pt) : ∀ u ∈ Pt.cl x, u.oneCell' = true := by
  intro u hu
  simp [Pt.cl] at hu
  rcases hu with rfl | rfl | rfl | rfl | rfl | rfl | rfl <;> rfl
theorem ptapp (w : World) (B : Nat) (v : Value) (l ys : List Pt) (A : Option Addr) (m c : Nat) (hown : GOwn 32 7 Pt.cl w B v l) (hm : m = ys.length) (hs : GSl 7 Pt.cl w A ys) (hA : A = none → c = 0) (hlen : l.length ≤ 1000) (hmn : m ≤ 1000) (hB : B ≤ w.heap.size) :
    ∃ v' w', (Builtin.append_ #[34, 34] 34 #[v, .slice A m c]).run Tryz.prog w = .ok v' w' ∧ GOwn 32 7 Pt.cl w' B v' (l ++ ys) ∧ w.grownBy w' v.ownBlock ∧ (v'.ownBlock = v.ownBlock ∨ v'.ownBlock = some w.heap.size) := by
  obtain ⟨i0, hi0, hz0, hz1, hz2⟩ := info_parts info32
  exact gappm Tryz.underlying34 hi0 hz0 hz1 hz2 rfl (by decide) (fun _ => rfl) pt_one (by decide) w B v l ys A m c hown hm hs hA hlen hmn hB
def Eng.asked (e : Eng) (a n : Nat) : Bool := e.rq.any (Pt.of a n)
def Eng.ask (e : Eng) (a n s k : Nat) : Eng := if e.asked a n = false ∧ e.rq.length < 16 then { e with rq := e.rq ++ [⟨4, k, 0, a, n, s, 0⟩] } else e
theorem askc_any (w : World) (lo q : Nat) (e : Eng) (m : Mem) (h : EngAt lo w q e m) (hok : e.Ok) (a n xb : Nat) (A : Option Addr) (c : Nat) (hv : m.vr = .slice A e.rq.length c) (hs : GSl 7 Pt.cl w A e.rq) (hx : w.heap[xb]? = some (.cells #[.int .u32 (a : Int), .int .u8 (n : Int)] 30 (0, 0))) :
    Calls Tryz.prog 125 #[.slice A e.rq.length c, .func (.func 126) #[] #[.pointer (some ⟨xb, 0, none⟩)]] w fun en w' => en = .returned (.bool (e.asked a n)) ∧ Below w.heap.size w w' :=
  contPt_any w A e.rq.length c e.rq rfl (by have := hok.rql; omega) hs (Pt.of a n) 126 xb (enters_of Tryz.func126 (by kernel_rfl) rfl) (fun W x B _ => askp_any W x xb a n (brow B hx))
theorem ask_no (w : World) (lo q : Nat) (e : Eng) (m : Mem) (h : EngAt lo w q e m) (hok : e.Ok) (a n s k : Nat) (hno : ¬ (e.asked a n = false ∧ e.rq.length < 16)) :
    Calls Tryz.prog 86 #[.pointer (some ⟨q, 10, none⟩), .agg #[.int .u32 (a : Int), .int .u8 (n : Int)], .int .u16 (s : Int), .int .u64 (k : Int)] w fun en w' => en = .returned (.tuple #[]) ∧ Below w.heap.size w w' := by
  obtain ⟨A, c, hv, -, hs, -⟩ := gsl_of h.p.rq (fun _ => rfl)
  have B0 := (Below.refl w.heap.size w).alloc (Nat.le_refl _) (.cells #[.int .u32 (a : Int), .int .u8 (n : Int)] 30)
  have r0 := heap_alloc_new w (.cells #[.int .u32 (a : Int), .int .u8 (n : Int)] 30)
  have hc := askc_any _ lo q e m (h.step B0) hok a n w.heap.size A c hv (hs.below B0) r0
  have c13 := h.ec.c13
  rw [hv] at c13
  have hql := h.lt
  obtain ⟨N, hN⟩ : ∃ N, N = e.rq.length := ⟨_, rfl⟩
  rw [← hN] at hc c13 hno
  have HC := Lib.hid (And.intro hc (And.intro B0 (fun w' (B : Below w.heap.size w w') => ((Ser.bcell B).1 q 13 hql).trans c13)))
  have hql0 := hql
  clear hc B0 r0 hv hs h hok hN
  cases ha : e.asked a n with
  | true =>
    rw [ha] at HC
    clear hno ha
    go_enter Tryz.func86, Tryz.ntmps86
    go_wp2_with (go_at_call 125; (with_reducible refine HC.out.1.mono ?_); rintro en w' ⟨rfl, B⟩; have HB := Lib.hid (HC.out.2.1.trans (B.mono HC.out.2.1.size)); clear B c13)
    exact bodyPost_end (v := .tuple #[]) (by simp [results, Tryz.results86, go_sem]) rfl ⟨rfl, HB.out⟩
  | false =>
    rw [ha] at HC
    have hN16 : ¬ N < 16 := fun hh => hno ⟨ha, hh⟩
    clear hno ha
    go_enter Tryz.func86, Tryz.ntmps86
    go_wp2_with (go_at_call 125; (with_reducible refine HC.out.1.mono ?_); rintro en w' ⟨rfl, B⟩; have HB := Lib.hid (HC.out.2.1.trans (B.mono HC.out.2.1.size)); have c13' := HC.out.2.2 w' HB.out; clear B c13)
    exact bodyPost_end (v := .tuple #[]) (by simp [results, Tryz.results86, go_sem]) rfl ⟨rfl, HB.out⟩
set_option maxHeartbeats 4000000 in
theorem ask_yes (w : World) (lo q : Nat) (e : Eng) (m : Mem) (h : EngAt lo w q e m) (hok : e.Ok) (a n s k : Nat) (ha : e.asked a n = false) (hl : e.rq.length < 16) :
    Calls Tryz.prog 86 #[.pointer (some ⟨q, 10, none⟩), .agg #[.int .u32 (a : Int), .int .u8 (n : Int)], .int .u16 (s : Int), .int .u64 (k : Int)] w fun en w' => en = .returned (.tuple #[]) ∧ ES lo w q m { e with rq := e.rq ++ [⟨4, k, 0, a, n, s, 0⟩] } w' := by
  obtain ⟨A, c, hv, -, hs, -⟩ := gsl_of h.p.rq (fun _ => rfl)
  have B0 := (Below.refl w.heap.size w).alloc (Nat.le_refl _) (.cells #[.int .u32 (a : Int), .int .u8 (n : Int)] 30)
  have r0 := heap_alloc_new w (.cells #[.int .u32 (a : Int), .int .u8 (n : Int)] 30)
  have hc := askc_any _ lo q e m (h.step B0) hok a n w.heap.size A c hv (hs.below B0) r0
  rw [ha] at hc
  have c13 := h.ec.c13
  rw [hv] at c13
  have hql := h.lt
  obtain ⟨N, hN⟩ : ∃ N, N = e.rq.length := ⟨_, rfl⟩
  rw [← hN] at hc c13 hl hv
  have HC := Lib.hid (And.intro hc (And.intro B0 (And.intro r0 (fun w' (B : Below w.heap.size w w') => And.intro (((Ser.bcell B).1 q 13 hql).trans c13) (h.step B)))))
  have HV := Lib.hid hv
  have HLO := Lib.hid h.los
  have HNB := Lib.hid (And.intro hN hl)
  clear hc B0 r0 hv hs h hok hN ha
  go_enter Tryz.func86, Tryz.ntmps86
  go_upto_region 3 with (go_at_call 125; (with_reducible refine HC.out.1.mono ?_); rintro en w1 ⟨rfl, B⟩; have HB := Lib.hid (HC.out.2.1.trans (B.mono HC.out.2.1.size)); have HR0 := Lib.hid (brow B HC.out.2.2.1); obtain ⟨c13', hE1⟩ := HC.out.2.2.2 w1 HB.out; have HE0 := Lib.hid hE1; clear B c13 hE1)
  clear HC c13' hql
  have HR := Lib.hid (And.intro HR0.out (show ¬ (w.heap.size = q ∨ m.vr.ownBlock = some w.heap.size) from fun e9 => by
    rcases e9 with e9 | e9
    · exact row_ne HR0.out HE0.out.row (by decide) e9
    · exact HE0.out.p.rq.ne HR0.out (by decide) e9))
  have HE := Lib.hid (HE0.out.step ((Below.refl _ w1).drew))
  refine wp_region_noPanic ?_
  refine wp_region_held_drew (S := fun y : World => Fr (fun j => j = q ∨ m.vr.ownBlock = some j) w1 y) (by kernel_rfl) (Fr.of ((Below.refl _ w1).drew)) (fun hHeld => ?_)
  generalize w1.drew = wd at *
  refine wpAnyH_take (i := 0) (oi := ⟨some 25, .move (.tmp 0), 168, "outgoing.go:41", #[], none⟩) (v := .pointer (some ⟨q, 10, none⟩)) rfl (by kernel_rfl) (by kernel_rfl) (by kernel_rfl) (fun _ _ _ h => h) (Or.inl ⟨by rfl, fun w hSw => by go_simp⟩) (by assumption) ?_
  try simp only [Act.put, List.setIfInBounds_toArray, List.set_cons_zero, List.set_cons_succ]
  refine wpAnyH_take (i := 1) (oi := ⟨some 26, .move (.tmp 0), 168, "outgoing.go:41", #[], none⟩) (v := .pointer (some ⟨q, 10, none⟩)) rfl (by kernel_rfl) (by kernel_rfl) (by kernel_rfl) (fun _ _ _ h => h) (Or.inl ⟨by rfl, fun w hSw => by go_simp⟩) (by assumption) ?_
  try simp only [Act.put, List.setIfInBounds_toArray, List.set_cons_zero, List.set_cons_succ]
  refine wpAnyH_take (i := 2) (oi := ⟨some 27, .nilCheck (.tmp 26), 0, "outgoing.go:41", #[⟨1, .data⟩], none⟩) (v := .pointer (some ⟨q, 10, none⟩)) rfl (by kernel_rfl) (by kernel_rfl) (by kernel_rfl) (fun _ _ _ h => h) (Or.inl ⟨by rfl, fun w hSw => by go_simp⟩) (by assumption) ?_
  try simp only [Act.put, List.setIfInBounds_toArray, List.set_cons_zero, List.set_cons_succ]
  refine wpAnyH_take (i := 3) (oi := ⟨some 28, .fieldAddr 93 (.tmp 27) 3, 0, "outgoing.go:41", #[⟨2, .data⟩], none⟩) (v := .pointer (some ⟨q, 13, none⟩)) rfl (by kernel_rfl) (by kernel_rfl) (by kernel_rfl) (fun _ _ _ h => h) (Or.inl ⟨by rfl, fun w hSw => by go_simp⟩) (by assumption) ?_
  try simp only [Act.put, List.setIfInBounds_toArray, List.set_cons_zero, List.set_cons_succ]
  refine wpAnyH_take (i := 5) (oi := ⟨some 30, .load 30 (.tmp 5), 30, "outgoing.go:41", #[], none⟩) (v := .agg #[.int .u32 (a : Int), .int .u8 (n : Int)]) rfl (by kernel_rfl) (by kernel_rfl) (by kernel_rfl) (fun _ _ _ h => h) (Or.inl ⟨by rfl, fun w hSw => by obtain ⟨p0, p1, -⟩ := row2 (hSw.row HR.out.1 HR.out.2); go_simp⟩) (by assumption) ?_
  try simp only [Act.put, List.setIfInBounds_toArray, List.set_cons_zero, List.set_cons_succ]
  refine wpAnyH_take (i := 6) (oi := ⟨some 31, .move (.tmp 2), 22, "outgoing.go:41", #[], none⟩) (v := .int .u16 (s : Int)) rfl (by kernel_rfl) (by kernel_rfl) (by kernel_rfl) (fun _ _ _ h => h) (Or.inl ⟨by rfl, fun w hSw => by go_simp⟩) (by assumption) ?_
  try simp only [Act.put, List.setIfInBounds_toArray, List.set_cons_zero, List.set_cons_succ]
  refine wpAnyH_take (i := 7) (oi := ⟨some 32, .move (.tmp 3), 27, "outgoing.go:41", #[], none⟩) (v := .int .u64 (k : Int)) rfl (by kernel_rfl) (by kernel_rfl) (by kernel_rfl) (fun _ _ _ h => h) (Or.inl ⟨by rfl, fun w hSw => by go_simp⟩) (by assumption) ?_
  try simp only [Act.put, List.setIfInBounds_toArray, List.set_cons_zero, List.set_cons_succ]
  refine wpAnyH_take (i := 8) (oi := ⟨some 33, .build 32 #[(0, .const (.int .u8 4)), (3, .tmp 30), (4, .tmp 31), (1, .tmp 32)], 32, "outgoing.go:41", #[⟨5, .data⟩, ⟨6, .data⟩, ⟨7, .data⟩], none⟩) (v := .agg #[.int .u8 4, .int .u64 (k : Int), .int .i64 0, .int .u32 (a : Int), .int .u8 (n : Int), .int .u16 (s : Int), .int .u16 0]) rfl (by kernel_rfl) (by kernel_rfl) (by kernel_rfl) (fun _ _ _ h => h) (Or.inl ⟨by rfl, fun w hSw => by go_simp⟩) (by assumption) ?_
  try simp only [Act.put, List.setIfInBounds_toArray, List.set_cons_zero, List.set_cons_succ]
  refine wpAnyH_ready (rs := [4, 9]) (by kernel_rfl) (by simp) ?_
  refine (AllReadyH.cons (o := ⟨some 29, .load 34 (.tmp 28), 34, "outgoing.go:41", #[⟨3, .data⟩], none⟩) rfl (fun K hK => ?_) (AllReadyH.cons (o := ⟨some 34, .buildSlice 34 1 #[(0, .tmp 33)], 34, "outgoing.go:41", #[⟨8, .data⟩], none⟩) rfl (fun K hK => ?_) AllReadyH.nil))
  · have c13 := HE.out.ec.c13
    rw [HV.out] at c13
    have hql := HE.out.lt
    go_simp
    refine hK.out _ _ (hHeld) (fun hHeld2 => ?_)
    clear hK K hHeld
    have hHeld := hHeld2
    clear hHeld2
    try simp only [Act.put, List.setIfInBounds_toArray, List.set_cons_zero, List.set_cons_succ]
    clear c13 hql
    refine wpAnyH_ready (rs := [9]) (by kernel_rfl) (by simp) ?_
    refine (AllReadyH.cons (o := ⟨some 34, .buildSlice 34 1 #[(0, .tmp 33)], 34, "outgoing.go:41", #[⟨8, .data⟩], none⟩) rfl (fun K hK => ?_) AllReadyH.nil)
    go_simp
    refine hK.out _ _ (hHeld.step ((Below.refl _ _).alloc (Nat.le_refl _) (.cells #[.int .u8 4, .int .u64 (k : Int), .int .i64 0, .int .u32 (a : Int), .int .u8 (n : Int), .int .u16 (s : Int), .int .u16 0] 32))) (fun hHeld2 => ?_)
    clear hK K hHeld
    have hHeld := hHeld2
    clear hHeld2
    try simp only [Act.put, List.setIfInBounds_toArray, List.set_cons_zero, List.set_cons_succ]
    have BA := (Below.refl wd.heap.size wd).alloc (Nat.le_refl _) (.cells #[.int .u8 4, .int .u64 (k : Int), .int .i64 0, .int .u32 (a : Int), .int .u8 (n : Int), .int .u16 (s : Int), .int .u16 0] 32)
    have hrow : (wd.alloc (.cells #[.int .u8 4, .int .u64 (k : Int), .int .i64 0, .int .u32 (a : Int), .int .u8 (n : Int), .int .u16 (s : Int), .int .u16 0] 32)).heap[wd.heap.size]? = some (.cells (Pt.cl ⟨4, k, 0, a, n, s, 0⟩).toArray 32 (0, 0)) := heap_alloc_new wd (.cells #[.int .u8 4, .int .u64 (k : Int), .int .i64 0, .int .u32 (a : Int), .int .u8 (n : Int), .int .u16 (s : Int), .int .u16 0] 32)
    have HGS := Lib.hid (gsl_row (k := 7) hrow)
    have HE2 := Lib.hid (HE.out.step BA)
    clear BA HE hrow
    generalize wd.alloc _ = wd3 at *
    generalize wd.heap.size = z at *
    generalize wd3 = wd at *
    have HE := HE2
    clear HE2
    refine wpAnyH_ready (rs := [10]) (by kernel_rfl) (by simp) ?_
    refine (AllReadyH.cons (o := ⟨some 35, .call ⟨.builtin .append, #[.tmp 29, .tmp 34], #[34, 34]⟩, 34, "outgoing.go:41", #[⟨4, .data⟩, ⟨9, .data⟩], none⟩) rfl (fun K hK => ?_) AllReadyH.nil)
    obtain ⟨v5, wd2, hrun, O5, G5, L5⟩ := ptapp wd lo (.slice A N c) e.rq [⟨4, k, 0, a, n, s, 0⟩] (some ⟨z, 0, none⟩) 1 1 (by rw [← HV.out]; exact HE.out.p.rq) rfl HGS.out (fun h => by cases h) (by have := HNB.out.1; have := HNB.out.2; omega) (by decide) HE.out.los
    rw [← HV.out] at G5 L5
    refine Lib.wp_append_run _ (.tmp 29) (.tmp 34) 34 34 rfl _ _ rfl rfl _ _ hrun ?_
    obtain ⟨A5, n5, c5, hv5⟩ : ∃ A5 n5 c5, v5 = .slice A5 n5 c5 := by
      obtain ⟨A5, c5, hv5, -⟩ := O5.form (fun _ => rfl)
      exact ⟨_, _, _, hv5⟩
    have F5 : Fr (fun j => m.vr.ownBlock = some j) wd wd2 := Fr.grown G5 (fun j e => e)
    have HP5 := Lib.hid (HE.out.p.rq' F5 O5)
    have HRW := Lib.hid (F5.row HE.out.row (HE.out.apart).2.2.2.2.2.2.2.2)
    have HMV := Lib.hid (show Moved w1 m.vr v5 from L5.imp_right fun h b e9 => by
      rw [h] at e9
      have e9 := Option.some.inj e9
      have := hHeld.size
      omega)
    have hHeld3 := hHeld.trans (Fr.grown (X := fun j => j = q ∨ m.vr.ownBlock = some j) G5 (fun k e => Or.inr e))
    subst hv5
    clear O5 G5 L5 F5 hrun HE
    refine hK.out _ _ (hHeld3) (fun hHeld2 => ?_)
    clear hK K hHeld
    have hHeld := hHeld2
    clear hHeld2
    try simp only [Act.put, List.setIfInBounds_toArray, List.set_cons_zero, List.set_cons_succ]
    clear hHeld3
    generalize wd2 = wd at *
    refine wpAnyH_take (i := 11) (oi := ⟨some 36, .nilCheck (.tmp 25), 0, "outgoing.go:41", #[⟨0, .data⟩, ⟨0, .phase⟩, ⟨1, .phase⟩, ⟨2, .phase⟩, ⟨3, .phase⟩, ⟨4, .phase⟩, ⟨5, .phase⟩, ⟨6, .phase⟩, ⟨7, .phase⟩, ⟨8, .phase⟩, ⟨9, .phase⟩, ⟨10, .phase⟩], none⟩) (v := .pointer (some ⟨q, 10, none⟩)) rfl (by kernel_rfl) (by kernel_rfl) (by kernel_rfl) (fun _ _ _ h => h) (Or.inl ⟨by rfl, fun w hSw => by go_simp⟩) (by assumption) ?_
    try simp only [Act.put, List.setIfInBounds_toArray, List.set_cons_zero, List.set_cons_succ]
    refine wpAnyH_take (i := 12) (oi := ⟨some 37, .fieldAddr 93 (.tmp 36) 3, 0, "outgoing.go:41", #[⟨11, .data⟩, ⟨0, .phase⟩, ⟨1, .phase⟩, ⟨2, .phase⟩, ⟨3, .phase⟩, ⟨4, .phase⟩, ⟨5, .phase⟩, ⟨6, .phase⟩, ⟨7, .phase⟩, ⟨8, .phase⟩, ⟨9, .phase⟩, ⟨10, .phase⟩], none⟩) (v := .pointer (some ⟨q, 13, none⟩)) rfl (by kernel_rfl) (by kernel_rfl) (by kernel_rfl) (fun _ _ _ h => h) (Or.inl ⟨by rfl, fun w hSw => by go_simp⟩) (by assumption) ?_
    try simp only [Act.put, List.setIfInBounds_toArray, List.set_cons_zero, List.set_cons_succ]
    refine wpAnyH_ready (rs := [13]) (by kernel_rfl) (by simp) ?_
    refine (AllReadyH.cons (o := ⟨none, .store 34 (.tmp 37) (.tmp 35), 0, "outgoing.go:41", #[⟨12, .data⟩, ⟨10, .data⟩, ⟨10, .chain⟩, ⟨0, .phase⟩, ⟨1, .phase⟩, ⟨2, .phase⟩, ⟨3, .phase⟩, ⟨4, .phase⟩, ⟨5, .phase⟩, ⟨6, .phase⟩, ⟨7, .phase⟩, ⟨8, .phase⟩, ⟨9, .phase⟩, ⟨10, .phase⟩], none⟩) rfl (fun K hK => ?_) AllReadyH.nil)
    have hc4 := cell_of_row wd q 13 _ 95 (0, 0) HRW.out
    have hf4 := frozen_of_row wd q 13 _ 95 HRW.out
    have hql := (Array.getElem?_eq_some_iff.1 HRW.out).1
    go_simp
    refine hK.out _ _ (hHeld.trans (Fr.grown (grown_setCell wd q 13 _) (fun k e => Or.inl (Option.some.inj e).symm))) (fun hHeld2 => ?_)
    clear hK K hHeld
    have hHeld := hHeld2
    clear hHeld2
    try simp only [Act.put, List.setIfInBounds_toArray, List.set_cons_zero, List.set_cons_succ]
    have HI := Lib.hid (EngAt.put HRW.out HE0.out.le HP5.out 13 (.slice A5 n5 c5) rfl)
    clear hc4 hf4 hql HP5 HRW
    generalize wd.setCell _ _ = wd9 at *
    generalize wd9 = wd at *
    refine wpAnyH_done (by kernel_rfl) ?_ _
    try unfold NoPanic
    have HF := Lib.hid hHeld
    clear hHeld
    go_wp2
    refine bodyPost_end (v := .tuple #[]) (by simp [results, Tryz.results86, go_sem]) rfl ⟨rfl, ?_⟩
    refine ES.trans (m := m) (Ef.of HB.out HLO.out) (fun k hk => Or.inl hk) HB.out.size ⟨_, HI.out, Ef.frm HF.out HE0.out.los (fun k hk => ?_) (fun k hk => ?_), fun k hk => Mem.x_rq HMV.out hk, rfl⟩
    · rcases hk with rfl | hk
      · exact HE0.out.le
      · exact (HE0.out.p.rq.lt hk).1
    · rcases hk with rfl | hk
      · exact Or.inl rfl
      · exact .inr (.inr (.inr (.inr (.inr (.inr (.inr (.inr (.inr hk))))))))
  · go_simp
    refine hK.out _ _ (hHeld.step ((Below.refl _ _).alloc (Nat.le_refl _) (.cells #[.int .u8 4, .int .u64 (k : Int), .int .i64 0, .int .u32 (a : Int), .int .u8 (n : Int), .int .u16 (s : Int), .int .u16 0] 32))) (fun hHeld2 => ?_)
    clear hK K hHeld
    have hHeld := hHeld2
    clear hHeld2
    try simp only [Act.put, List.setIfInBounds_toArray, List.set_cons_zero, List.set_cons_succ]
    have BA := (Below.refl wd.heap.size wd).alloc (Nat.le_refl _) (.cells #[.int .u8 4, .int .u64 (k : Int), .int .i64 0, .int .u32 (a : Int), .int .u8 (n : Int), .int .u16 (s : Int), .int .u16 0] 32)
    have hrow : (wd.alloc (.cells #[.int .u8 4, .int .u64 (k : Int), .int .i64 0, .int .u32 (a : Int), .int .u8 (n : Int), .int .u16 (s : Int), .int .u16 0] 32)).heap[wd.heap.size]? = some (.cells (Pt.cl ⟨4, k, 0, a, n, s, 0⟩).toArray 32 (0, 0)) := heap_alloc_new wd (.cells #[.int .u8 4, .int .u64 (k : Int), .int .i64 0, .int .u32 (a : Int), .int .u8 (n : Int), .int .u16 (s : Int), .int .u16 0] 32)
    have HGS := Lib.hid (gsl_row (k := 7) hrow)
    have HE2 := Lib.hid (HE.out.step BA)
    clear BA HE hrow
    generalize wd.alloc _ = wd3 at *
    generalize wd.heap.size = z at *
    generalize wd3 = wd at *
    have HE := HE2
    clear HE2
    refine wpAnyH_ready (rs := [4]) (by kernel_rfl) (by simp) ?_
    refine (AllReadyH.cons (o := ⟨some 29, .load 34 (.tmp 28), 34, "outgoing.go:41", #[⟨3, .data⟩], none⟩) rfl (fun K hK => ?_) AllReadyH.nil)
    have c13 := HE.out.ec.c13
    rw [HV.out] at c13
    have hql := HE.out.lt
    go_simp
    refine hK.out _ _ (hHeld) (fun hHeld2 => ?_)
    clear hK K hHeld
    have hHeld := hHeld2
    clear hHeld2
    try simp only [Act.put, List.setIfInBounds_toArray, List.set_cons_zero, List.set_cons_succ]
    clear c13 hql
    refine wpAnyH_ready (rs := [10]) (by kernel_rfl) (by simp) ?_
    refine (AllReadyH.cons (o := ⟨some 35, .call ⟨.builtin .append, #[.tmp 29, .tmp 34], #[34, 34]⟩, 34, "outgoing.go:41", #[⟨4, .data⟩, ⟨9, .data⟩], none⟩) rfl (fun K hK => ?_) AllReadyH.nil)
    obtain ⟨v5, wd2, hrun, O5, G5, L5⟩ := ptapp wd lo (.slice A N c) e.rq [⟨4, k, 0, a, n, s, 0⟩] (some ⟨z, 0, none⟩) 1 1 (by rw [← HV.out]; exact HE.out.p.rq) rfl HGS.out (fun h => by cases h) (by have := HNB.out.1; have := HNB.out.2; omega) (by decide) HE.out.los
    rw [← HV.out] at G5 L5
    refine Lib.wp_append_run _ (.tmp 29) (.tmp 34) 34 34 rfl _ _ rfl rfl _ _ hrun ?_
    obtain ⟨A5, n5, c5, hv5⟩ : ∃ A5 n5 c5, v5 = .slice A5 n5 c5 := by
      obtain ⟨A5, c5, hv5, -⟩ := O5.form (fun _ => rfl)
      exact ⟨_, _, _, hv5⟩
    have F5 : Fr (fun j => m.vr.ownBlock = some j) wd wd2 := Fr.grown G5 (fun j e => e)
    have HP5 := Lib.hid (HE.out.p.rq' F5 O5)
    have HRW := Lib.hid (F5.row HE.out.row (HE.out.apart).2.2.2.2.2.2.2.2)
    have HMV := Lib.hid (show Moved w1 m.vr v5 from L5.imp_right fun h b e9 => by
      rw [h] at e9
      have e9 := Option.some.inj e9
      have := hHeld.size
      omega)
    have hHeld3 := hHeld.trans (Fr.grown (X := fun j => j = q ∨ m.vr.ownBlock = some j) G5 (fun k e => Or.inr e))
    subst hv5
    clear O5 G5 L5 F5 hrun HE
    refine hK.out _ _ (hHeld3) (fun hHeld2 => ?_)
    clear hK K hHeld
    have hHeld := hHeld2
    clear hHeld2
    try simp only [Act.put, List.setIfInBounds_toArray, List.set_cons_zero, List.set_cons_succ]
    clear hHeld3
    generalize wd2 = wd at *
    refine wpAnyH_take (i := 11) (oi := ⟨some 36, .nilCheck (.tmp 25), 0, "outgoing.go:41", #[⟨0, .data⟩, ⟨0, .phase⟩, ⟨1, .phase⟩, ⟨2, .phase⟩, ⟨3, .phase⟩, ⟨4, .phase⟩, ⟨5, .phase⟩, ⟨6, .phase⟩, ⟨7, .phase⟩, ⟨8, .phase⟩, ⟨9, .phase⟩, ⟨10, .phase⟩], none⟩) (v := .pointer (some ⟨q, 10, none⟩)) rfl (by kernel_rfl) (by kernel_rfl) (by kernel_rfl) (fun _ _ _ h => h) (Or.inl ⟨by rfl, fun w hSw => by go_simp⟩) (by assumption) ?_
    try simp only [Act.put, List.setIfInBounds_toArray, List.set_cons_zero, List.set_cons_succ]
    refine wpAnyH_take (i := 12) (oi := ⟨some 37, .fieldAddr 93 (.tmp 36) 3, 0, "outgoing.go:41", #[⟨11, .data⟩, ⟨0, .phase⟩, ⟨1, .phase⟩, ⟨2, .phase⟩, ⟨3, .phase⟩, ⟨4, .phase⟩, ⟨5, .phase⟩, ⟨6, .phase⟩, ⟨7, .phase⟩, ⟨8, .phase⟩, ⟨9, .phase⟩, ⟨10, .phase⟩], none⟩) (v := .pointer (some ⟨q, 13, none⟩)) rfl (by kernel_rfl) (by kernel_rfl) (by kernel_rfl) (fun _ _ _ h => h) (Or.inl ⟨by rfl, fun w hSw => by go_simp⟩) (by assumption) ?_
    try simp only [Act.put, List.setIfInBounds_toArray, List.set_cons_zero, List.set_cons_succ]
    refine wpAnyH_ready (rs := [13]) (by kernel_rfl) (by simp) ?_
    refine (AllReadyH.cons (o := ⟨none, .store 34 (.tmp 37) (.tmp 35), 0, "outgoing.go:41", #[⟨12, .data⟩, ⟨10, .data⟩, ⟨10, .chain⟩, ⟨0, .phase⟩, ⟨1, .phase⟩, ⟨2, .phase⟩, ⟨3, .phase⟩, ⟨4, .phase⟩, ⟨5, .phase⟩, ⟨6, .phase⟩, ⟨7, .phase⟩, ⟨8, .phase⟩, ⟨9, .phase⟩, ⟨10, .phase⟩], none⟩) rfl (fun K hK => ?_) AllReadyH.nil)
    have hc4 := cell_of_row wd q 13 _ 95 (0, 0) HRW.out
    have hf4 := frozen_of_row wd q 13 _ 95 HRW.out
    have hql := (Array.getElem?_eq_some_iff.1 HRW.out).1
    go_simp
    refine hK.out _ _ (hHeld.trans (Fr.grown (grown_setCell wd q 13 _) (fun k e => Or.inl (Option.some.inj e).symm))) (fun hHeld2 => ?_)
    clear hK K hHeld
    have hHeld := hHeld2
    clear hHeld2
    try simp only [Act.put, List.setIfInBounds_toArray, List.set_cons_zero, List.set_cons_succ]
    have HI := Lib.hid (EngAt.put HRW.out HE0.out.le HP5.out 13 (.slice A5 n5 c5) rfl)
    clear hc4 hf4 hql HP5 HRW
    generalize wd.setCell _ _ = wd9 at *
    generalize wd9 = wd at *
    refine wpAnyH_done (by kernel_rfl) ?_ _
    try unfold NoPanic
    have HF := Lib.hid hHeld
    clear hHeld
    go_wp2
    refine bodyPost_end (v := .tuple #[]) (by simp [results, Tryz.results86, go_sem]) rfl ⟨rfl, ?_⟩
    refine ES.trans (m := m) (Ef.of HB.out HLO.out) (fun k hk => Or.inl hk) HB.out.size ⟨_, HI.out, Ef.frm HF.out HE0.out.los (fun k hk => ?_) (fun k hk => ?_), fun k hk => Mem.x_rq HMV.out hk, rfl⟩
    · rcases hk with rfl | hk
      · exact HE0.out.le
      · exact (HE0.out.p.rq.lt hk).1
    · rcases hk with rfl | hk
      · exact Or.inl rfl
      · exact .inr (.inr (.inr (.inr (.inr (.inr (.inr (.inr (.inr hk))))))))
theorem ask_any (w : World) (lo q : Nat) (e : Eng) (m : Mem) (h : EngAt lo w q e m) (hok : e.Ok) (a n s k : Nat) :
    Calls Tryz.prog 86 #[.pointer (some ⟨q, 10, none⟩), .agg #[.int .u32 (a : Int), .int .u8 (n : Int)], .int .u16 (s : Int), .int .u64 (k : Int)] w fun en w' => en = .returned (.tuple #[]) ∧ ES lo w q m (e.ask a n s k) w' := by
  unfold Eng.ask
  by_cases hx : e.asked a n = false ∧ e.rq.length < 16
  · rw [if_pos hx]
    exact ask_yes w lo q e m h hok a n s k hx.1 hx.2
  · rw [if_neg hx]
    refine (ask_no w lo q e m h hok a n s k hx).mono ?_
    rintro en w' ⟨rfl, B⟩
    exact ⟨rfl, ES.of h B⟩
end Go.Proofs.YtjbogjbopgcbhaaGreatDoor.Eg
