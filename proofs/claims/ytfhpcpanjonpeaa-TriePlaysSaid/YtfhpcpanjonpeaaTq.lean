/- Tries of routes in memory: what is put where two part. -/
import Derived.Test.YtfhpcpanjonpeaaTp
import Derived.Deep.DeepCutAuto
import Derived.Deep.RegionHeld3
namespace Go.Proofs.Ytfhpcpanjonpeaa.Tri
open Pre
open Go.ChangeShapes Go.WideShapes Go.ChangeAt Go.RowKit

theorem fork_wf {a n : Nat} {x : Option R} {l rr : T} {r : R} (h : (T.node a n x l rr).WF) (hr : r.Ok) (hw : ¬ within r.a r.n a n = true) : (fork (top r.a (comm a n r.a r.n)) (comm a n r.a r.n) none (sd a (comm a n r.a r.n)) (.node a n x l rr) .nil).WF := by
  have hp := parts h.1 hr (fun e => hw (within_iff.2 e))
  have hk : comm a n r.a r.n ≤ 32 := Nat.le_trans (comm_left _ _ _ _) h.1.2.1
  have hu := hp.2.1
  unfold fork
  split
  · rename_i hs
    rw [hs] at hu
    exact ⟨⟨top_lt hr.1, hk, top_right hk⟩, (fun y e => by cases e), trivial, hu, trivial, h⟩
  · rename_i hs
    rw [Bool.eq_false_iff.2 hs] at hu
    exact ⟨⟨top_lt hr.1, hk, top_right hk⟩, (fun y e => by cases e), hu, trivial, h, trivial⟩
theorem fork_put {a n : Nat} {x : Option R} {l rr : T} {r : R} (h : (T.node a n x l rr).WF) (hr : r.Ok) (hw : ¬ within r.a r.n a n = true) : (fork (top r.a (comm a n r.a r.n)) (comm a n r.a r.n) none (sd a (comm a n r.a r.n)) (.node a n x l rr) .nil).put r = (T.node a n x l rr).put r := by
  have hp := parts h.1 hr (fun e => hw (within_iff.2 e))
  have hi : within r.a r.n (top r.a (comm a n r.a r.n)) (comm a n r.a r.n) = true := within_iff.2 ⟨comm_right _ _ _ _, top_alike _ _⟩
  rw [show (T.node a n x l rr).put r = _ from by rw [T.put, if_neg hw]]
  by_cases he : r.a = top r.a (comm a n r.a r.n) ∧ r.n = comm a n r.a r.n
  · rw [if_pos he]
    unfold fork
    split <;> (rw [T.put, if_pos hi, if_pos he]; rfl)
  · rw [if_neg he]
    have hv := hp.2.2 he
    have h32 : comm a n r.a r.n < 32 := by have := hv.1; have := hv.2.1; omega
    have hb := hv.2.2.2
    rw [← sd_bit h32] at hb
    unfold fork
    split
    · rename_i hs
      rw [hs] at hb
      rw [T.put, if_pos hi, if_neg he, if_neg (by rw [hb]; decide)]
      rfl
    · rename_i hs
      rw [Bool.eq_false_iff.2 hs] at hb
      rw [T.put, if_pos hi, if_neg he, if_pos (by rw [hb]; decide)]
      rfl
theorem fork_said {a n : Nat} {x : Option R} {l rr : T} {r : R} (h : (T.node a n x l rr).WF) (hr : r.Ok) (hw : ¬ within r.a r.n a n = true) : PutSaid (fork (top r.a (comm a n r.a r.n)) (comm a n r.a r.n) none (sd a (comm a n r.a r.n)) (.node a n x l rr) .nil) r := by
  have hf := fork_wf h hr hw
  have hp := parts h.1 hr (fun e => hw (within_iff.2 e))
  have hi : within r.a r.n (top r.a (comm a n r.a r.n)) (comm a n r.a r.n) = true := within_iff.2 ⟨comm_right _ _ _ _, top_alike _ _⟩
  have key : ¬(r.a = top r.a (comm a n r.a r.n) ∧ r.n = comm a n r.a r.n) → sd r.a (comm a n r.a r.n) = !sd a (comm a n r.a r.n) := fun he => by
    have hv := hp.2.2 he
    rw [sd_bit (by have := hv.1; have := hv.2.1; omega)]
    exact hv.2.2.2
  unfold fork at hf ⊢
  split at hf
  · rename_i hs
    rw [if_pos hs]
    exact put_in _ _ _ _ _ r hf hr hi fun he => ⟨(fun e => by rw [key he, hs] at e; cases e), fun _ => put_nil r⟩
  · rename_i hs
    rw [if_neg hs]
    exact put_in _ _ _ _ _ r hf hr hi fun he => ⟨fun _ => put_nil r, fun e => by rw [key he, Bool.eq_false_iff.2 hs] at e; cases e⟩
theorem fork_at {w : World} {a n q f k : Nat} {x : Option R} {l rr : T} {bs : List Nat} {s : Bool} (h : At w (.node a n x l rr) (.pointer (some ⟨q, 0, none⟩)) bs) {f' : Nat}
    (hf : w.heap[f']? = some (.cells (cellsN f k none (if s then .pointer none else .pointer (some ⟨q, 0, none⟩)) (if s then .pointer (some ⟨q, 0, none⟩) else .pointer none)) 64 (0, 0))) : At w (fork f k none s (.node a n x l rr) .nil) (.pointer (some ⟨f', 0, none⟩)) (f' :: bs) := by
  unfold fork
  cases s
  · exact ⟨f', _, _, bs, [], rfl, by simp, hf, h, ⟨rfl, rfl⟩⟩
  · exact ⟨f', _, _, [], bs, rfl, by simp, hf, ⟨rfl, rfl⟩, h⟩
set_option maxRecDepth 8000 in
set_option maxHeartbeats 8000000 in
theorem put_out (a n : Nat) (x : Option R) (l rr : T) (r : R) (h : (T.node a n x l rr).WF) (hr : r.Ok) (hw : ¬ within r.a r.n a n = true) : PutSaid (.node a n x l rr) r := by
  intro w v bs hAt hnd
  have hF := fork_said h hr hw
  have hFp := fork_put h hr hw
  have hA := hAt
  obtain ⟨q, vl, vr, bl, br, rfl, hbs, hq, _, _⟩ := hAt
  have hqm : q ∈ bs := by rw [hbs]; simp
  clear hbs
  rw [← hFp]
  have hfs : ∀ f', w.heap.size ≤ f' → (f' :: bs).Nodup := fun f' hf => List.nodup_cons.2 ⟨fun e => by have := hA.lt _ e; omega, hnd⟩
  obtain ⟨ra, rn, via, mt, sq⟩ := r
  obtain ⟨r1, r2, r3⟩ := hr
  replace r1 : ra < 4294967296 := r1
  replace r2 : rn ≤ 32 := r2
  have c31 := fun W => within_any ra rn a n r1 (by omega) h.1.1 (by have := h.1.2.1; omega) W
  rw [show within ra rn a n = false from Bool.eq_false_iff.2 hw] at c31
  have c32 := fun W hh => ahead_at a n ra rn q x vl vr h.1.1 r1 h.1.2.1 r2 W hh
  unfold PutSaid R.cl at hF
  unfold R.cl
  dsimp only at *
  obtain ⟨F, hFe⟩ : ∃ F, F = fork (top ra (comm a n ra rn)) (comm a n ra rn) none (sd a (comm a n ra rn)) (.node a n x l rr) .nil := ⟨_, rfl⟩
  rw [← hFe] at hF ⊢
  have HFE := Lib.hid hFe
  have R0 := heap_alloc_new w (.cells #[.int .u32 (ra : Int), .int .u8 (rn : Int), .int .i64 via, .int .u16 mt, .int .u16 sq] 39)
  have B0 : Below w.heap.size w (w.alloc (.cells #[.int .u32 (ra : Int), .int .u8 (rn : Int), .int .i64 via, .int .u16 mt, .int .u16 sq] 39)) := (Below.refl _ _).alloc (Nat.le_refl _) _
  have hqs := (Array.getElem?_eq_some_iff.1 hq).1
  have HB := Lib.hid R0
  have HQ := Lib.hid ((B0.block _ hqs).trans hq)
  have HG := Lib.hid B0
  have HT := Lib.hid hA
  have HND := Lib.hid hfs
  clear hFp hFe hA hq B0 R0 hnd hfs h
  go_enter Try.func23, Try.ntmps23
  go_upto_region 3 with (fail)
  generalize w.alloc _ = wv at *
  refine wp_region_noPanic ?_
  refine wp_region_held_drew (S := fun W : World => Below wv.heap.size wv W) (by kernel_rfl) ((Below.refl _ _).drew) (fun hHeld => ?_)
  generalize wv.drew = wd at *
  refine wpAnyH_take (i := 0) (oi := { dst := some 14, op := Op.fieldAddr 39 (Operand.tmp 3) 0, type := 0, pos := "place.go:22", after := #[], guard := none }) (v := .pointer (some ⟨w.heap.size, 0, none⟩)) rfl (by kernel_rfl) (by kernel_rfl) (by kernel_rfl) (fun _ _ _ h => h) (Or.inl ⟨by rfl, fun w hSw => by go_simp⟩) (by assumption) ?_
  try simp only [Act.put, List.setIfInBounds_toArray, List.set_cons_zero, List.set_cons_succ]
  refine wpAnyH_take (i := 1) (oi := { dst := some 15, op := Op.load 32 (Operand.tmp 14), type := 32, pos := "place.go:22", after := #[{ on := 0, ground := Ground.data }], guard := none }) (v := .agg #[.int .u32 (ra : Int), .int .u8 (rn : Int)]) rfl (by kernel_rfl) (by kernel_rfl) (by kernel_rfl) (fun _ _ _ h => h) (Or.inl ⟨by rfl, fun w hSw => by obtain ⟨y0, y1, y2, y3, y4⟩ := row5 ((hSw.block _ (Array.getElem?_eq_some_iff.1 HB.out).1).trans HB.out); go_simp⟩) (by assumption) ?_
  try simp only [Act.put, List.setIfInBounds_toArray, List.set_cons_zero, List.set_cons_succ]
  refine wpAnyH_take (i := 2) (oi := { dst := some 16, op := Op.move (Operand.tmp 0), type := 26, pos := "place.go:22", after := #[], guard := none }) (v := .pointer (some ⟨q, 0, none⟩)) rfl (by kernel_rfl) (by kernel_rfl) (by kernel_rfl) (fun _ _ _ h => h) (Or.inl ⟨by rfl, fun w hSw => by go_simp⟩) (by assumption) ?_
  try simp only [Act.put, List.setIfInBounds_toArray, List.set_cons_zero, List.set_cons_succ]
  refine wpAnyH_take (i := 3) (oi := { dst := some 17, op := Op.nilCheck (Operand.tmp 16), type := 0, pos := "place.go:22", after := #[{ on := 2, ground := Ground.data }], guard := none }) (v := .pointer (some ⟨q, 0, none⟩)) rfl (by kernel_rfl) (by kernel_rfl) (by kernel_rfl) (fun _ _ _ h => h) (Or.inl ⟨by rfl, fun w hSw => by go_simp⟩) (by assumption) ?_
  try simp only [Act.put, List.setIfInBounds_toArray, List.set_cons_zero, List.set_cons_succ]
  refine wpAnyH_take (i := 4) (oi := { dst := some 18, op := Op.fieldAddr 64 (Operand.tmp 17) 0, type := 0, pos := "place.go:22", after := #[{ on := 3, ground := Ground.data }], guard := none }) (v := .pointer (some ⟨q, 0, none⟩)) rfl (by kernel_rfl) (by kernel_rfl) (by kernel_rfl) (fun _ _ _ h => h) (Or.inl ⟨by rfl, fun w hSw => by go_simp⟩) (by assumption) ?_
  try simp only [Act.put, List.setIfInBounds_toArray, List.set_cons_zero, List.set_cons_succ]
  refine wpAnyH_take (i := 5) (oi := { dst := some 19, op := Op.load 32 (Operand.tmp 18), type := 32, pos := "place.go:22", after := #[{ on := 4, ground := Ground.data }], guard := none }) (v := .agg #[.int .u32 (a : Int), .int .u8 (n : Int)]) rfl (by kernel_rfl) (by kernel_rfl) (by kernel_rfl) (fun _ _ _ h => h) (Or.inl ⟨by rfl, fun w hSw => by obtain ⟨k0, k1, k2, k8, k9⟩ := placeN ((hSw.block _ (Array.getElem?_eq_some_iff.1 HQ.out).1).trans HQ.out); go_simp⟩) (by assumption) ?_
  try simp only [Act.put, List.setIfInBounds_toArray, List.set_cons_zero, List.set_cons_succ]
  refine wpAnyH_ready (rs := [6]) (by kernel_rfl) (by simp) ?_
  refine AllReadyH.cons (o := { dst := some 20, op := Op.call { callee := Callee.value (Operand.func 31), args := #[Operand.tmp 15, Operand.tmp 19], argTypes := #[32, 32] }, type := 4, pos := "place.go:22", after := #[{ on := 1, ground := Ground.data }, { on := 5, ground := Ground.data }], guard := none }) rfl (fun K hK => ?_) AllReadyH.nil
  go_simp
  with_reducible refine (c31 _).mono ?_
  rintro e w3 ⟨rfl, B3⟩
  have D3 := hHeld.trans (B3.mono hHeld.size)
  refine hK.out _ _ (D3) (fun hHeld => ?_)
  clear hK K
  try simp only [Act.put, List.setIfInBounds_toArray, List.set_cons_zero, List.set_cons_succ]
  refine wpAnyH_take (i := 7) (oi := { dst := some 21, op := Op.unOp UnOp.not 4 (Operand.tmp 20), type := 4, pos := "place.go:22", after := #[{ on := 6, ground := Ground.data }], guard := none }) (v := .bool true) rfl (by kernel_rfl) (by kernel_rfl) (by kernel_rfl) (fun _ _ _ h => h) (Or.inl ⟨by rfl, fun w hSw => by go_simp⟩) (by assumption) ?_
  try simp only [Act.put, List.setIfInBounds_toArray, List.set_cons_zero, List.set_cons_succ]
  refine wpAnyH_done (by kernel_rfl) ?_ _
  try unfold NoPanic
  go_upto_region 4 with (fail)
  have HB3 := Lib.hid ((hHeld.block _ (Array.getElem?_eq_some_iff.1 HB.out).1).trans HB.out)
  have HQ3 := Lib.hid ((hHeld.block _ (Array.getElem?_eq_some_iff.1 HQ.out).1).trans HQ.out)
  have HG3 := Lib.hid (HG.out.trans (hHeld.mono HG.out.size))
  clear HB HQ HG hHeld D3
  refine wp_region_noPanic ?_
  refine wp_region_held_drew (S := fun W : World => W.heap[w.heap.size]? = some (.cells #[.int .u32 (ra : Int), .int .u8 (rn : Int), .int .i64 via, .int .u16 mt, .int .u16 sq] 39)) (by kernel_rfl) (((Below.refl w3.heap.size w3).drew.block _ (Array.getElem?_eq_some_iff.1 HB3.out).1).trans HB3.out) (fun hHeld => ?_)
  have HD := Lib.hid ((Below.refl w3.heap.size w3).drew)
  have HQ4 := Lib.hid ((HD.out.block _ (Array.getElem?_eq_some_iff.1 HQ3.out).1).trans HQ3.out)
  have HSZ := Lib.hid HD.out.size
  generalize w3.drew = wd4 at *
  refine wpAnyH_take (i := 0) (oi := { dst := some 22, op := Op.move (Operand.tmp 0), type := 26, pos := "place.go:23", after := #[], guard := none }) (v := .pointer (some ⟨q, 0, none⟩)) rfl (by kernel_rfl) (by kernel_rfl) (by kernel_rfl) (fun _ _ _ h => h) (Or.inl ⟨by rfl, fun w hSw => by go_simp⟩) (by assumption) ?_
  try simp only [Act.put, List.setIfInBounds_toArray, List.set_cons_zero, List.set_cons_succ]
  refine wpAnyH_take (i := 1) (oi := { dst := some 23, op := Op.fieldAddr 39 (Operand.tmp 3) 0, type := 0, pos := "place.go:23", after := #[], guard := none }) (v := .pointer (some ⟨w.heap.size, 0, none⟩)) rfl (by kernel_rfl) (by kernel_rfl) (by kernel_rfl) (fun _ _ _ h => h) (Or.inl ⟨by rfl, fun w hSw => by go_simp⟩) (by assumption) ?_
  try simp only [Act.put, List.setIfInBounds_toArray, List.set_cons_zero, List.set_cons_succ]
  refine wpAnyH_take (i := 2) (oi := { dst := some 24, op := Op.load 32 (Operand.tmp 23), type := 32, pos := "place.go:23", after := #[{ on := 1, ground := Ground.data }], guard := none }) (v := .agg #[.int .u32 (ra : Int), .int .u8 (rn : Int)]) rfl (by kernel_rfl) (by kernel_rfl) (by kernel_rfl) (fun _ _ _ h => h) (Or.inl ⟨by rfl, fun w hSw => by obtain ⟨y0, y1, y2, y3, y4⟩ := row5 hSw; go_simp⟩) (by assumption) ?_
  try simp only [Act.put, List.setIfInBounds_toArray, List.set_cons_zero, List.set_cons_succ]
  refine wpAnyH_take (i := 4) (oi := { dst := some 26, op := Op.load 39 (Operand.tmp 3), type := 39, pos := "place.go:23", after := #[], guard := none }) (v := .agg #[.int .u32 (ra : Int), .int .u8 (rn : Int), .int .i64 via, .int .u16 mt, .int .u16 sq]) rfl (by kernel_rfl) (by kernel_rfl) (by kernel_rfl) (fun _ _ _ h => h) (Or.inl ⟨by rfl, fun w hSw => by obtain ⟨y0, y1, y2, y3, y4⟩ := row5 hSw; go_simp⟩) (by assumption) ?_
  try simp only [Act.put, List.setIfInBounds_toArray, List.set_cons_zero, List.set_cons_succ]
  refine wpAnyH_ready (rs := [3]) (by kernel_rfl) (by simp) ?_
  refine AllReadyH.cons (o := { dst := some 25, op := Op.call { callee := Callee.value (Operand.func 32), args := #[Operand.tmp 22, Operand.tmp 24], argTypes := #[26, 32] }, type := 26, pos := "place.go:23", after := #[{ on := 0, ground := Ground.data }, { on := 2, ground := Ground.data }], guard := none }) rfl (fun K hK => ?_) AllReadyH.nil
  go_simp
  with_reducible refine (c32 _ HQ4.out).mono ?_
  rintro e w5 ⟨f', rfl, hf', BF, HF⟩
  have A5 := (HT.out.below (HG3.out.trans (HD.out.mono HG3.out.size))).below BF
  have AF := fork_at A5 HF
  rw [← HFE.out] at AF
  have hge : w.heap.size ≤ f' := by have := HG3.out.size; have := HSZ.out; omega
  refine hK.out _ _ ((BF.block _ (Array.getElem?_eq_some_iff.1 hHeld).1).trans hHeld) (fun hHeld => ?_)
  clear hK K
  try simp only [Act.put, List.setIfInBounds_toArray, List.set_cons_zero, List.set_cons_succ]
  refine wpAnyH_ready (rs := [5]) (by kernel_rfl) (by simp) ?_
  refine AllReadyH.cons (o := { dst := some 27, op := Op.call { callee := Callee.value (Operand.func 23), args := #[Operand.tmp 25, Operand.tmp 26], argTypes := #[26, 39] }, type := 59, pos := "place.go:23", after := #[{ on := 3, ground := Ground.data }, { on := 4, ground := Ground.data }, { on := 3, ground := Ground.chain }], guard := none }) rfl (fun K hK => ?_) AllReadyH.nil
  go_simp
  have hbx : w.heap.size ∉ f' :: bs := fun e => by
    rcases List.mem_cons.1 e with e | e
    · have := (Array.getElem?_eq_some_iff.1 HB3.out).1; have := HSZ.out; omega
    · exact Nat.lt_irrefl _ (HT.out.lt _ e)
  with_reducible refine (hF w5 _ _ AF (HND.out f' hge)).mono ?_
  rintro e w6 ⟨v', bs', rfl, A6, nd6, fr6, G6⟩
  obtain ⟨p', rfl⟩ := A6.ptr
  refine hK.out _ _ ((G6.block _ (Array.getElem?_eq_some_iff.1 hHeld).1 hbx).trans hHeld) (fun hHeld => ?_)
  clear hK K
  try simp only [Act.put, List.setIfInBounds_toArray, List.set_cons_zero, List.set_cons_succ]
  refine wpAnyH_take (i := 6) (oi := { dst := some 28, op := Op.extract (Operand.tmp 27) 0, type := 26, pos := "place.go:23", after := #[{ on := 5, ground := Ground.data }], guard := none }) (v := .pointer p') rfl (by kernel_rfl) (by kernel_rfl) (by kernel_rfl) (fun _ _ _ h => h) (Or.inl ⟨by rfl, fun w hSw => by go_simp⟩) (by assumption) ?_
  try simp only [Act.put, List.setIfInBounds_toArray, List.set_cons_zero, List.set_cons_succ]
  refine wpAnyH_take (i := 7) (oi := { dst := some 29, op := Op.extract (Operand.tmp 27) 1, type := 4, pos := "place.go:23", after := #[{ on := 5, ground := Ground.data }], guard := none }) (v := .bool (T.put F ⟨ra, rn, via, mt, sq⟩).2) rfl (by kernel_rfl) (by kernel_rfl) (by kernel_rfl) (fun _ _ _ h => h) (Or.inl ⟨by rfl, fun w hSw => by go_simp⟩) (by assumption) ?_
  try simp only [Act.put, List.setIfInBounds_toArray, List.set_cons_zero, List.set_cons_succ]
  refine wpAnyH_take (i := 8) (oi := { dst := some 4, op := Op.assign (Operand.tmp 28), type := 26, pos := "place.go:23", after := #[{ on := 6, ground := Ground.data }, { on := 5, ground := Ground.chain }, { on := 0, ground := Ground.phase }, { on := 1, ground := Ground.phase }, { on := 2, ground := Ground.phase }, { on := 3, ground := Ground.phase }, { on := 4, ground := Ground.phase }, { on := 5, ground := Ground.phase }, { on := 6, ground := Ground.phase }, { on := 7, ground := Ground.phase }], guard := none }) (v := .pointer p') rfl (by kernel_rfl) (by kernel_rfl) (by kernel_rfl) (fun _ _ _ h => h) (Or.inl ⟨by rfl, fun w hSw => by go_simp⟩) (by assumption) ?_
  try simp only [Act.put, List.setIfInBounds_toArray, List.set_cons_zero, List.set_cons_succ]
  refine wpAnyH_take (i := 9) (oi := { dst := some 5, op := Op.assign (Operand.tmp 29), type := 4, pos := "place.go:23", after := #[{ on := 7, ground := Ground.data }, { on := 8, ground := Ground.chain }, { on := 0, ground := Ground.phase }, { on := 1, ground := Ground.phase }, { on := 2, ground := Ground.phase }, { on := 3, ground := Ground.phase }, { on := 4, ground := Ground.phase }, { on := 5, ground := Ground.phase }, { on := 6, ground := Ground.phase }, { on := 7, ground := Ground.phase }, { on := 8, ground := Ground.phase }], guard := none }) (v := .bool (T.put F ⟨ra, rn, via, mt, sq⟩).2) rfl (by kernel_rfl) (by kernel_rfl) (by kernel_rfl) (fun _ _ _ h => h) (Or.inl ⟨by rfl, fun w hSw => by go_simp⟩) (by assumption) ?_
  try simp only [Act.put, List.setIfInBounds_toArray, List.set_cons_zero, List.set_cons_succ]
  refine wpAnyH_done (by kernel_rfl) ?_ _
  try unfold NoPanic
  go_wp2
  go_ret2
  refine ⟨_, _, rfl, A6, nd6, fun b hb => ?_, ?_⟩
  · rcases fr6 b hb with e | e
    · rcases List.mem_cons.1 e with rfl | e
      · exact .inr (by have := HG3.out.size; have := HSZ.out; omega)
      · exact .inl e
    · exact .inr (by have := HG3.out.size; have := HSZ.out; have := BF.size; omega)
  · have g1 := below_grew (HG3.out.trans ((HD.out.trans (BF.mono HD.out.size)).mono HG3.out.size)) bs
    exact g1.trans G6 fun b hb => by
      rcases List.mem_cons.1 hb with rfl | e
      · exact .inr (by have := HG3.out.size; have := HSZ.out; omega)
      · exact .inl e
theorem put_any (t : T) (r : R) (h : t.WF) (hr : r.Ok) : PutSaid t r := by
  induction t with
  | nil => exact put_nil r
  | node a n x l rr il ir =>
    by_cases hw : within r.a r.n a n = true
    · exact put_in a n x l rr r h hr hw fun _ => ⟨fun _ => ir h.2.2.2.2.2, fun _ => il h.2.2.2.2.1⟩
    · exact put_out a n x l rr r h hr hw
end Go.Proofs.Ytfhpcpanjonpeaa.Tri
