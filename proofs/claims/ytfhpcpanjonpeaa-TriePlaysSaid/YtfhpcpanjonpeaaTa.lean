/- All routes; a trie of routes. -/
import Derived.Test.YtfhpcpanjonpeaaTs
import Derived.Deep.DeepCutAuto
import Derived.Deep.RegionHeld3
namespace Go.Proofs.Ytfhpcpanjonpeaa.Tri
open Pre
open Go.ChangeShapes Go.WideShapes Go.ChangeAt Go.RowKit

theorem rcl_one (rs : List R) : ∀ u ∈ rs.flatMap fun r : R => r.cl.toList, u.oneCell' = true := by
  intro u hu
  obtain ⟨r, _, h⟩ := List.mem_flatMap.1 hu
  simp [R.cl] at h
  rcases h with rfl | rfl | rfl | rfl | rfl <;> rfl
theorem rflat_len (rs : List R) : (rs.flatMap fun r : R => r.cl.toList).length = rs.length * 5 := by
  induction rs with
  | nil => rfl
  | cons c cs ih => rw [List.flatMap_cons, List.length_append, ih, List.length_cons]; simp [R.cl]; omega
theorem rflat_at : ∀ (rs : List R) (k i : Nat) (hk : k < rs.length), i < 5 → (rs.flatMap fun r : R => r.cl.toList)[k * 5 + i]? = (rs[k].cl.toList)[i]?
  | c :: cs, 0, i, _, hi => by
    rw [List.flatMap_cons, List.getElem?_append_left (by simp [R.cl]; omega), Nat.zero_mul, Nat.zero_add]; rfl
  | c :: cs, k + 1, i, hk, hi => by
    rw [List.flatMap_cons, List.getElem?_append_right (by simp [R.cl]; omega), show (k + 1) * 5 + i - c.cl.toList.length = k * 5 + i by simp [R.cl]; omega]
    exact rflat_at cs k i (by simpa using hk) hi
/-- Routes in a slice of the call's own. -/
def RtOwn (w : World) (B : Nat) (v : Value) (rs : List R) : Prop := w.ownsRow B 39 5 v rs.length (rs.flatMap fun r : R => r.cl.toList)
theorem RtOwn.nil (w : World) (B : Nat) : RtOwn w B (.slice none 0 0) [] := World.ownsRow_nil w B 39 5
theorem RtOwn.kept {w w' : World} {B : Nat} {v : Value} {rs : List R} (h : RtOwn w B v rs) (hb : Below w.heap.size w w') : RtOwn w' B v rs :=
  World.ownsRow.kept (row := none) h ⟨hb.os, hb.tape, hb.output, hb.size, fun k hk _ => hb.block k hk⟩ (by cases v.ownBlock <;> simp)
/-- A route that lies in memory. -/
structure RtAt (w : World) (b o : Nat) (r : R) : Prop where
  k0 : w.cell? ⟨b, o, none⟩ = some (.int .u32 (r.a : Int))
  k1 : w.cell? ⟨b, o + 1, none⟩ = some (.int .u8 (r.n : Int))
  k2 : w.cell? ⟨b, o + 2, none⟩ = some (.int .i64 r.via)
  k3 : w.cell? ⟨b, o + 3, none⟩ = some (.int .u16 r.mt)
  k4 : w.cell? ⟨b, o + 4, none⟩ = some (.int .u16 r.sq)
theorem RtAt.keep {w w' : World} {b o : Nat} {r : R} (h : RtAt w b o r) (hb : w'.heap[b]? = w.heap[b]?) : RtAt w' b o r := by
  have k : ∀ i, w'.cell? ⟨b, i, none⟩ = w.cell? ⟨b, i, none⟩ := fun i => World.cell?_of_block (a := ⟨b, i, none⟩) hb
  exact ⟨(k _).trans h.k0, (k _).trans h.k1, (k _).trans h.k2, (k _).trans h.k3, (k _).trans h.k4⟩
def RtSl (w : World) (A : Option Addr) (rs : List R) : Prop := ∀ k (hk : k < rs.length), ∃ b o, A = some ⟨b, o, none⟩ ∧ b < w.heap.size ∧ RtAt w b (o + k * 5) rs[k]
theorem RtSl.below {w w' : World} {A : Option Addr} {rs : List R} (h : RtSl w A rs) (B : Below w.heap.size w w') : RtSl w' A rs := fun k hk => by
  obtain ⟨b, o, e, hlt, hc⟩ := h k hk
  exact ⟨b, o, e, Nat.lt_of_lt_of_le hlt B.size, hc.keep (B.block b hlt)⟩
theorem RtOwn.form {w : World} {B : Nat} {v : Value} {rs : List R} (h : RtOwn w B v rs) : ∃ A c, v = .slice A rs.length c ∧ RtSl w A rs := by
  have hh := h
  rcases h.2 with ⟨rfl, h0⟩ | ⟨g, cap, cur, rfl, hB, h2, _⟩
  · exact ⟨none, 0, by rw [h0], fun k hk => by omega⟩
  · refine ⟨_, cap, rfl, fun k hk => ⟨g, 0, rfl, (Array.getElem?_eq_some_iff.1 h2).1, ?_⟩⟩
    have hc : ∀ i, i < 5 → w.cell? ⟨g, 0 + k * 5 + i, none⟩ = (rs[k].cl.toList)[i]? := fun i hi => by
      rw [Nat.zero_add, World.ownsRow.cellAt hh (k * 5 + i) (by omega)]
      exact rflat_at rs k i hk hi
    exact ⟨hc 0 (by decide), hc 1 (by decide), hc 2 (by decide), hc 3 (by decide), hc 4 (by decide)⟩
theorem info_parts {P : Program} {t : TypeId} {z : Value} {s b : Nat} (h : (P.info? t).map (fun i => (i.zero, i.size, i.bytes)) = some (some z, s, b)) : ∃ i, P.info? t = some i ∧ i.zero = some z ∧ i.size = s ∧ i.bytes = b := by
  cases hi : P.info? t with
  | none => rw [hi] at h; cases h
  | some i => rw [hi] at h; simp at h; exact ⟨i, rfl, h.1, h.2.1, h.2.2⟩
theorem info39 : (Try.prog.info? 39).map (fun i => (i.zero, i.size, i.bytes)) = some (some (.agg #[.int .u32 0, .int .u8 0, .int .i64 0, .int .u16 0, .int .u16 0]), 5, 24) := by kernel_rfl
theorem un29 : Try.prog.underlying 29 = some (.slice 39) := by kernel_rfl
theorem app_rt {w : World} {ops : Array Oper} {rest : List Oper} {o : Oper} {a : Act} {Q : Exit → Act → World → Prop} (hgd : o.guard = none) (s x : Operand)
    (ho : o.op = .call { callee := .builtin .append, args := #[s, x], argTypes := #[29, 29] }) (B : Nat) (v : Value) (rs : List R) (r : R) (b : Nat)
    (hs : a.eval s = v) (hx : a.eval x = .slice (some ⟨b, 0, none⟩) 1 1) (hown : RtOwn w B v rs) (hc : w.heap[b]? = some (.cells r.cl 39 (0, 0))) (hlen : rs.length ≤ 100000) (hB : B ≤ w.heap.size)
    (h : ∀ v' w', RtOwn w' B v' (rs ++ [r]) → w.grownBy w' v.ownBlock → Below B w w' → wpList Try.prog ops Q rest (a.put o.dst v') w') : wpList Try.prog ops Q (o :: rest) a w := by
  obtain ⟨i0, hi, hz0, hz1, hz2⟩ := info_parts info39
  refine wpList_append_own w hgd s x 29 ho B 39 i0 _ 5 24 un29 hi hz0 hz1 hz2 rfl (by decide) v rs.length (rs.flatMap fun r : R => r.cl.toList) hs hown ⟨b, 0, none⟩ 1 1 r.cl.toList hx (by simp [R.cl]) ?_ (by intro u hu; simp [R.cl] at hu; rcases hu with rfl | rfl | rfl | rfl | rfl <;> rfl) (by unfold maxLen; omega) (by omega) hB ?_
  · intro j u hj
    have hadd : (⟨b, 0, none⟩ : Addr).add j = ⟨b, j, none⟩ := by unfold Addr.add; split <;> simp_all
    rw [hadd, cell_of_row w b j _ 39 (0, 0) hc]
    simpa using hj
  · intro v' w' h1 h2 _
    refine h v' w' ?_ h2 ((Below.refl B w).grown h2 hB fun k hk => (World.ownsRow.lt hown k hk).1)
    unfold RtOwn
    rw [List.flatMap_append, List.length_append]
    simpa using h1
/-- What appendAll does. -/
def AllSaid (t : T) : Prop := ∀ (w : World) (B : Nat) (v : Value) (rs : List R) (tv : Value) (bs : List Nat), RtOwn w B v rs → At w t tv bs → (∀ b ∈ bs, b < B) → B ≤ w.heap.size → rs.length + t.list.length ≤ 100000 →
  Calls Try.prog 27 #[v, tv] w fun e w' => ∃ v', e = .returned v' ∧ RtOwn w' B v' (rs ++ t.list) ∧ Below B w w'
theorem all_nil : AllSaid .nil := by
  intro w B v rs tv bs ho h _ _ _
  obtain ⟨rfl, rfl⟩ := h
  obtain ⟨A, c, rfl, _⟩ := ho.form
  have HO := Lib.hid ho
  clear ho
  go_enter Try.func27, Try.ntmps27
  go_wp2
  go_ret
  exact ⟨_, rfl, by rw [T.list, List.append_nil]; exact HO.out, Below.refl _ _⟩
theorem ixw0 (p1 p2 : Option Addr) (W : World) : (Instr.index 62 (.agg #[.pointer p1, .pointer p2]) (.int .i64 0)).run Try.prog W = .ok (.pointer p1) W := by rfl
theorem ixw1 (p1 p2 : Option Addr) (W : World) : (Instr.index 62 (.agg #[.pointer p1, .pointer p2]) (.int .i64 1)).run Try.prog W = .ok (.pointer p2) W := by rfl
def acc (rs : List R) (x : Option R) (l r : T) : Nat → List R
  | 0 => rs ++ x.toList
  | 1 => rs ++ x.toList ++ l.list
  | _ => rs ++ x.toList ++ l.list ++ r.list
set_option maxRecDepth 8000 in
set_option maxHeartbeats 8000000 in
theorem all_node (a n : Nat) (x : Option R) (l r : T) (il : AllSaid l) (ir : AllSaid r) : AllSaid (.node a n x l r) := by
  intro w B v rs tv bs ho h hlt hB hlen
  obtain ⟨q, vl, vr, bl, br, rfl, rfl, hq, hl, hr⟩ := h
  obtain ⟨pl, rfl⟩ := hl.ptr
  obtain ⟨pr, rfl⟩ := hr.ptr
  have hqB := hlt q (by simp)
  have hll : ∀ b ∈ bl, b < B := fun b hb => hlt b (by simp [hb])
  have hlr : ∀ b ∈ br, b < B := fun b hb => hlt b (by simp [hb])
  unfold T.list at hlen
  rw [List.length_append, List.length_append] at hlen
  have HQ := Lib.hid hq
  have HT := Lib.hid (And.intro hl hr)
  have HLL := Lib.hid (And.intro hll hlr)
  obtain ⟨k0, k1, k2, k8, k9⟩ := placeN hq
  clear hq hl hr hlt hll hlr
  have ix0 := ixw0 pl pr
  have ix1 := ixw1 pl pr
  have main : ∀ (W : World) (V : Value), RtOwn W B V (rs ++ x.toList) → Below B w W → Hid (RtOwn W B V (acc rs x l r 0) ∧ Below B w W) := fun W V h1 h2 => Lib.hid ⟨h1, h2⟩
  cases x with
  | none =>
    obtain ⟨A0, c0, hv0, _⟩ := ho.form
    have HO := main w v (by simpa using ho) (Below.refl _ _)
    clear ho main
    subst hv0
    go_enter Try.func27, Try.ntmps27
    go_wp2
    go_loopw [0, 25] (fun v0 i wr => ∃ k : Nat, k ≤ 2 ∧ i = .int .i64 k ∧ Hid (RtOwn wr B v0 (acc rs none l r k) ∧ Below B w wr)) (fun _ i _ => 2 - (intOf i).toNat)
    case atStart => exact ⟨0, by omega, rfl, HO⟩
    case round =>
      obtain ⟨k, hk, rfl, HR⟩ := hrel
      clear HO k0 k1 k2 k8 k9
      obtain ⟨A1, c1, hv1, _⟩ := HR.out.1.form
      obtain ⟨n1, hn1⟩ : ∃ n, n = (acc rs none l r k).length := ⟨_, rfl⟩
      rw [← hn1] at hv1
      subst hv1
      clear hn1
      rcases (by omega : k = 0 ∨ k = 1 ∨ k = 2) with rfl | rfl | rfl
      · have c27 := il _ B _ _ _ bl HR.out.1 (HT.out.1.keep fun b hb => HR.out.2.block b (HLL.out.1 b hb)) HLL.out.1 (Nat.le_trans hB HR.out.2.size) (by simp only [acc, List.length_append] at *; omega)
        go_wp2_with (first
          | (go_at_call 27; (with_reducible refine c27.mono ?_); rintro e w2 ⟨v2, rfl, O2, B2⟩))
        go_roundw
        case rel => exact ⟨1, by omega, by go_num, Lib.hid ⟨O2, HR.out.2.trans B2⟩⟩
        case measure => simp [intOf]
      · have c27 := ir _ B _ _ _ br HR.out.1 (HT.out.2.keep fun b hb => HR.out.2.block b (HLL.out.2 b hb)) HLL.out.2 (Nat.le_trans hB HR.out.2.size) (by simp only [acc, List.length_append] at *; omega)
        go_wp2_with (first
          | (go_at_call 27; (with_reducible refine c27.mono ?_); rintro e w2 ⟨v2, rfl, O2, B2⟩))
        go_roundw
        case rel => exact ⟨2, by omega, by go_num, Lib.hid ⟨O2, HR.out.2.trans B2⟩⟩
        case measure => simp [intOf]
      · go_wp2
        go_ret
        exact ⟨_, rfl, by simpa [acc, T.list, List.append_assoc] using HR.out.1, HR.out.2⟩
  | some y =>
    obtain ⟨A0, c0, hv0, _⟩ := ho.form
    obtain ⟨xa, xn, xv, xm, xs, ⟨k3, k4, k5, k6, k7⟩, hxe⟩ := routeN HQ.out
    have HXE := Lib.hid (hxe y rfl)
    clear hxe
    have HYC : Hid (y.cl = #[.int .u32 xa, .int .u8 xn, .int .i64 xv, .int .u16 xm, .int .u16 xs]) := Lib.hid (by rw [HXE.out.1, HXE.out.2.1, HXE.out.2.2.1, HXE.out.2.2.2.1, HXE.out.2.2.2.2]; rfl)
    have HV := Lib.hid (And.intro hv0 ho)
    subst hv0
    clear ho
    go_enter Try.func27, Try.ntmps27
    go_wp2_with (first
      | (at_builtin; (with_reducible refine app_rt rfl (.tmp 14) (.tmp 19) rfl B (.slice A0 rs.length c0) rs y w.heap.size rfl rfl (HV.out.2.kept ((Below.refl _ _).alloc (Nat.le_refl _) _)) (by rw [HYC.out]; exact heap_alloc_new w _) (by omega) (by simp; omega) ?_)))
    intro v4 w4 O4 G4 B4
    have BW := Lib.hid (((Below.refl w.heap.size w).alloc (Nat.le_refl _) (.cells #[.int .u32 xa, .int .u8 xn, .int .i64 xv, .int .u16 xm, .int .u16 xs] 39)).mono hB |>.trans B4)
    have HO : Hid (RtOwn w4 B v4 (acc rs (some y) l r 0) ∧ Below B w w4) := Lib.hid ⟨O4, BW.out⟩
    obtain ⟨A5, c5, hv5, _⟩ := O4.form
    obtain ⟨n5, hn5⟩ : ∃ n, n = (rs ++ [y]).length := ⟨_, rfl⟩
    rw [← hn5] at hv5
    have HQ4 := Lib.hid ((HO.out.2.block q hqB).trans HQ.out)
    clear k0 k1 k2 k3 k4 k5 k6 k7 k8 k9 main O4 G4 B4 BW hn5 HV
    subst hv5
    obtain ⟨k0, k1, k2, k8, k9⟩ := placeN HQ4.out
    go_wp2
    go_loopw [0, 25] (fun v0 i wr => ∃ k : Nat, k ≤ 2 ∧ i = .int .i64 k ∧ Hid (RtOwn wr B v0 (acc rs (some y) l r k) ∧ Below B w wr)) (fun _ i _ => 2 - (intOf i).toNat)
    case atStart => exact ⟨0, by omega, rfl, HO⟩
    case round =>
      obtain ⟨k, hk, rfl, HR⟩ := hrel
      clear HO k0 k1 k2 k8 k9
      obtain ⟨A1, c1, hv1, _⟩ := HR.out.1.form
      obtain ⟨n1, hn1⟩ : ∃ n, n = (acc rs (some y) l r k).length := ⟨_, rfl⟩
      rw [← hn1] at hv1
      subst hv1
      clear hn1
      rcases (by omega : k = 0 ∨ k = 1 ∨ k = 2) with rfl | rfl | rfl
      · have c27 := il _ B _ _ _ bl HR.out.1 (HT.out.1.keep fun b hb => HR.out.2.block b (HLL.out.1 b hb)) HLL.out.1 (Nat.le_trans hB HR.out.2.size) (by simp only [acc, List.length_append] at *; omega)
        go_wp2_with (first
          | (go_at_call 27; (with_reducible refine c27.mono ?_); rintro e w2 ⟨v2, rfl, O2, B2⟩))
        go_roundw
        case rel => exact ⟨1, by omega, by go_num, Lib.hid ⟨O2, HR.out.2.trans B2⟩⟩
        case measure => simp [intOf]
      · have c27 := ir _ B _ _ _ br HR.out.1 (HT.out.2.keep fun b hb => HR.out.2.block b (HLL.out.2 b hb)) HLL.out.2 (Nat.le_trans hB HR.out.2.size) (by simp only [acc, List.length_append] at *; omega)
        go_wp2_with (first
          | (go_at_call 27; (with_reducible refine c27.mono ?_); rintro e w2 ⟨v2, rfl, O2, B2⟩))
        go_roundw
        case rel => exact ⟨2, by omega, by go_num, Lib.hid ⟨O2, HR.out.2.trans B2⟩⟩
        case measure => simp [intOf]
      · go_wp2
        go_ret
        exact ⟨_, rfl, by simpa [acc, T.list, List.append_assoc] using HR.out.1, HR.out.2⟩
theorem all_any (t : T) : AllSaid t := by
  induction t with
  | nil => exact all_nil
  | node a n x l r il ir => exact all_node a n x l r il ir
end Go.Proofs.Ytfhpcpanjonpeaa.Tri
