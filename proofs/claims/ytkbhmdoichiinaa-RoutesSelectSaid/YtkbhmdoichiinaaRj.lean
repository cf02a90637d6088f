/- Tell; all that is told. -/
import Derived.Test.YtkbhmdoichiinaaRi
import Derived.Laws.EntriesVeiled
namespace Go.Proofs.Ytkbhmdoichiinaa.Rts
open Pre Ser
open Go.Proofs.Ytkbhmdoichiinaa.Src (row1 row2)
open Go.ChangeShapes Go.WideShapes Go.ChangeAt Go.RowKit
set_option maxRecDepth 8000

theorem tellp_any (W : World) (e : E) (he : e.Ok) (xb pb yb a n b : Nat) (hn : n < 256) (hb : b < 16) (hx : W.heap[xb]? = some (.cells #[.func (.func 47) #[] #[.pointer (some ⟨pb, 0, none⟩), .pointer (some ⟨yb, 0, none⟩)]] 97 (0, 0))) (hp : W.heap[pb]? = some (.cells #[.int .u32 (a : Int), .int .u8 (n : Int)] 39 (0, 0))) (hy : W.heap[yb]? = some (.cells #[.int .i64 (b : Int)] 3 (0, 0))) :
    Calls Try.prog 52 #[.agg #[.int .u32 (e.a : Int), .int .u8 (e.n : Int), .int .i64 (e.b : Int), .int .i64 (e.d : Int), .int .u16 (e.s : Int), .int .u16 (e.m : Int), .int .u64 (e.u : Int)], .pointer (some ⟨xb, 0, none⟩)] W fun en w' => en = .returned (.bool (e.key == key a n b)) ∧ Below W.heap.size W w' := by
  have B1 := (Below.refl W.heap.size W).alloc (Nat.le_refl _) (.cells #[.int .u32 (e.a : Int), .int .u8 (e.n : Int), .int .i64 (e.b : Int), .int .i64 (e.d : Int), .int .u16 (e.s : Int), .int .u16 (e.m : Int), .int .u64 (e.u : Int)] 43)
  have c47 := order_any _ e pb yb a n b (brow B1 hp) (brow B1 hy)
  have ho := ordV_eq (e := e) (a := a) he.n he.b hn hb
  obtain ⟨y, hy'⟩ : ∃ y, y = ordV e a n b := ⟨_, rfl⟩
  rw [← hy'] at c47 ho
  have hr : (e.key == key a n b) = (y == 0) := by rw [Bool.eq_iff_iff]; simp [ho]
  have HC := Lib.hid (And.intro c47 (And.intro B1 hr))
  have hxl := (Array.getElem?_eq_some_iff.1 hx).1
  obtain ⟨x0, -⟩ := row1 hx
  clear c47 ho hy' hr hp hy B1 hx he
  go_enter Try.func52, Try.ntmps52
  go_wp2_with (go_at_call 47; (with_reducible refine HC.out.1.mono ?_); rintro en w3 ⟨rfl, B3⟩; have H3 := Lib.hid (HC.out.2.1.trans (B3.mono HC.out.2.1.size)); clear B3)
  go_ret
  exact ⟨by rw [HC.out.2.2]; rfl, H3.out⟩
/-- What stands while Tell is at work. -/
structure TL (lo : Nat) (w W : World) (q : Nat) (L : List E) (v : Value) (a n b s m : Nat) : Prop where
  bl : Below w.heap.size w W
  r : RtsAt lo W q L v
  r0 : W.heap[w.heap.size]? = some (.cells #[.int .i64 (b : Int)] 3 (0, 0))
  r1 : W.heap[w.heap.size + 1]? = some (.cells #[.int .u32 (a : Int), .int .u8 (n : Int)] 39 (0, 0))
  r2 : W.heap[w.heap.size + 2]? = some (.cells #[.int .u16 (s : Int), .int .u16 (m : Int)] 41 (0, 0))
theorem TL.step {lo : Nat} {w W W' : World} {q : Nat} {L : List E} {v : Value} {a n b s m : Nat} (h : TL lo w W q L v a n b s m) (B : Below W.heap.size W W') : TL lo w W' q L v a n b s m :=
  ⟨h.bl.trans (B.mono h.bl.size), h.r.kept B, brow B h.r0, brow B h.r1, brow B h.r2⟩
theorem TL.start {lo : Nat} {w : World} {q : Nat} {L : List E} {v : Value} {a n b s m : Nat} (h : RtsAt lo w q L v) : TL lo w (((w.alloc (.cells #[.int .i64 (b : Int)] 3)).alloc (.cells #[.int .u32 (a : Int), .int .u8 (n : Int)] 39)).alloc (.cells #[.int .u16 (s : Int), .int .u16 (m : Int)] 41)) q L v a n b s m := by
  have B1 := (((Below.refl w.heap.size w).alloc (Nat.le_refl _) (.cells #[.int .i64 (b : Int)] 3)).alloc (by simp) (.cells #[.int .u32 (a : Int), .int .u8 (n : Int)] 39)).alloc (by simp; omega) (.cells #[.int .u16 (s : Int), .int .u16 (m : Int)] 41)
  have e1 : (w.alloc (.cells #[.int .i64 (b : Int)] 3)).heap.size = w.heap.size + 1 := by simp
  have e2 : ((w.alloc (.cells #[.int .i64 (b : Int)] 3)).alloc (.cells #[.int .u32 (a : Int), .int .u8 (n : Int)] 39)).heap.size = w.heap.size + 2 := by simp
  refine ⟨B1, h.kept B1, ?_, ?_, ?_⟩
  · exact (heap_alloc_old _ _ (by rw [e2]; omega)).trans ((heap_alloc_old _ _ (by rw [e1]; omega)).trans (heap_alloc_new w _))
  · have := heap_alloc_new (w.alloc (.cells #[.int .i64 (b : Int)] 3)) (.cells #[.int .u32 (a : Int), .int .u8 (n : Int)] 39)
    rw [e1] at this
    exact (heap_alloc_old _ _ (by rw [e2]; omega)).trans this
  · have := heap_alloc_new ((w.alloc (.cells #[.int .i64 (b : Int)] 3)).alloc (.cells #[.int .u32 (a : Int), .int .u8 (n : Int)] 39)) (.cells #[.int .u16 (s : Int), .int .u16 (m : Int)] 41)
    rw [e2] at this
    exact this
set_option maxHeartbeats 1000000 in
theorem tell_end (w : World) (lo q : Nat) (v : Value) (L : List E) (h : RtsAt lo w q L v) (hr : Rising L) (hlen : L.length ≤ 200) (hL : ∀ e ∈ L, e.Ok) (a n b d s m now : Nat) (ha : a < 4294967296) (hn : n < 256) (hright : Pre.right a n = true) (hb : b < 16) (hd : d < 16) (hs : s < 65536) (hnow : now < 4000000000000000000) (hm : m = 65535) :
    Calls Try.prog 26 #[.pointer (some ⟨q, 0, none⟩), .int .i64 (b : Int), .agg #[.int .u32 (a : Int), .int .u8 (n : Int)], .int .i64 (d : Int), .agg #[.int .u16 (s : Int), .int .u16 (m : Int)], .int .u64 (now : Int)] w (MvSaid lo w q v (L.filter fun e => !(e.key == key a n b)) (.returned (.int .i64 0))) := by
  have HR := Lib.hid (fun W => Pre.right_any a n ha (by omega) W)
  rw [hright] at HR
  have HI : Hid (∀ x : Nat, x < 16 → ∀ W, Calls Try.prog 46 #[.int .i64 (x : Int)] W fun e w' => e = .returned (.bool true) ∧ W = w') := Lib.hid isnode_any
  have HT := Lib.hid (TL.start (a := a) (n := n) (b := b) (s := s) (m := m) h)
  obtain ⟨W, hW⟩ : ∃ W, W = ((w.alloc (.cells #[.int .i64 (b : Int)] 3)).alloc (.cells #[.int .u32 (a : Int), .int .u8 (n : Int)] 39)).alloc (.cells #[.int .u16 (s : Int), .int .u16 (m : Int)] 41) := ⟨_, rfl⟩
  have HWE := Lib.hid hW
  rw [← hW] at HT
  have HP := Lib.hid (And.intro hr (And.intro hlen (And.intro hL (And.intro ha (And.intro hn (And.intro hb (And.intro hd (And.intro hs (And.intro hnow h)))))))))
  have HME := Lib.hid hm
  clear hr hlen hL ha hnow h hW hright hs hm
  go_enter Try.func26, Try.ntmps26
  go_upto_region 5 with (first
    | (go_at_call 46; (with_reducible refine (HI.out b HP.out.2.2.2.2.2.1 _).mono ?_); rintro en w3 ⟨rfl, rfl⟩)
    | (go_at_call 46; (with_reducible refine (HI.out d HP.out.2.2.2.2.2.2.1 _).mono ?_); rintro en w3 ⟨rfl, rfl⟩)
    | (go_at_call 41; (with_reducible refine (HR.out _).mono ?_); rintro en w3 ⟨rfl, B3⟩; rw [← HWE.out] at B3; have HK := Lib.hid (HT.out.step B3); clear B3))
  have hr6 := heap_alloc_new w3 (.cells #[.func (.func 47) #[] #[.pointer (some ⟨w.heap.size + 1, 0, none⟩), .pointer (some ⟨w.heap.size, 0, none⟩)]] 97)
  have B6 := (Below.refl w3.heap.size w3).alloc (Nat.le_refl _) (.cells #[.func (.func 47) #[] #[.pointer (some ⟨w.heap.size + 1, 0, none⟩), .pointer (some ⟨w.heap.size, 0, none⟩)]] 97)
  have HX := Lib.hid (And.intro (HK.out.step B6) hr6)
  clear B6 hr6
  have HZL := Lib.hid HK.out.bl.size
  go_upto_region 6 with (fail)
  generalize w3.alloc _ = w6 at *
  generalize w3.heap.size = z at *
  obtain ⟨m0, m1, -⟩ := row2 HX.out.1.r2
  obtain ⟨p0, p1, -⟩ := row2 HX.out.1.r1
  obtain ⟨b0, -⟩ := row1 HX.out.1.r0
  obtain ⟨x0, -⟩ := row1 HX.out.2
  obtain rfl := HME.out
  have hpo : ∀ (W : World) (e : E), Fr (fun k => v.ownBlock = some k) w6 W → e.Ok → Calls Try.prog 52 #[.agg #[.int .u32 (e.a : Int), .int .u8 (e.n : Int), .int .i64 (e.b : Int), .int .i64 (e.d : Int), .int .u16 (e.s : Int), .int .u16 (e.m : Int), .int .u64 (e.u : Int)], .pointer (some ⟨z, 0, none⟩)] W fun en w' => en = .returned (.bool (e.key == key a n b)) ∧ Below W.heap.size W w' := fun W e F he => by
    have ho := fun k (hk : v.ownBlock = some k) => (own_lt HP.out.2.2.2.2.2.2.2.2.2.own hk).2
    have hzl : w.heap.size ≤ z := HZL.out
    exact tellp_any W e he z (w.heap.size + 1) w.heap.size a n b HP.out.2.2.2.2.1 HP.out.2.2.2.2.2.1 (F.row HX.out.2 (fun e => by have := ho _ e; omega)) (F.row HX.out.1.r1 (fun e => by have := ho _ e; omega)) (F.row HX.out.1.r0 (fun e => by have := ho _ e; omega))
  have c51 := forget_any w6 lo q v L HX.out.1.r (Nat.le_trans HP.out.2.1 (by decide)) HP.out.2.2.1 (fun e => e.key == key a n b) 52 z (enters_of Try.func52 (by kernel_rfl) rfl) hpo
  have HC := Lib.hid c51
  clear c51 hpo
  go_wp2_with (go_at_call 51; (with_reducible refine HC.out.mono ?_); rintro en w7 hmv; have HM := Lib.hid hmv; obtain ⟨rfl, -⟩ := hmv)
  go_ret
  exact ⟨rfl, (HM.out.from HX.out.1.bl).2⟩
set_option maxHeartbeats 1000000 in
theorem tell_put (w : World) (lo q : Nat) (v : Value) (L : List E) (h : RtsAt lo w q L v) (hr : Rising L) (hlen : L.length ≤ 200) (hL : ∀ e ∈ L, e.Ok) (a n b d s m now : Nat) (ha : a < 4294967296) (hn : n < 256) (hright : Pre.right a n = true) (hb : b < 16) (hd : d < 16) (hs : s < 65536) (hnow : now < 4000000000000000000) (hm : m < 65535) :
    Calls Try.prog 26 #[.pointer (some ⟨q, 0, none⟩), .int .i64 (b : Int), .agg #[.int .u32 (a : Int), .int .u8 (n : Int)], .int .i64 (d : Int), .agg #[.int .u16 (s : Int), .int .u16 (m : Int)], .int .u64 (now : Int)] w (MvSaid lo w q v (putE L ⟨a, n, b, d, s, m, now + 50⟩) (.returned (.int .i64 0))) := by
  have HR := Lib.hid (fun W => Pre.right_any a n ha (by omega) W)
  rw [hright] at HR
  have HI : Hid (∀ x : Nat, x < 16 → ∀ W, Calls Try.prog 46 #[.int .i64 (x : Int)] W fun e w' => e = .returned (.bool true) ∧ W = w') := Lib.hid isnode_any
  have HT := Lib.hid (TL.start (a := a) (n := n) (b := b) (s := s) (m := m) h)
  obtain ⟨W, hW⟩ : ∃ W, W = ((w.alloc (.cells #[.int .i64 (b : Int)] 3)).alloc (.cells #[.int .u32 (a : Int), .int .u8 (n : Int)] 39)).alloc (.cells #[.int .u16 (s : Int), .int .u16 (m : Int)] 41) := ⟨_, rfl⟩
  have HWE := Lib.hid hW
  rw [← hW] at HT
  have HP := Lib.hid (And.intro hr (And.intro hlen (And.intro hL (And.intro ha (And.intro hn (And.intro hb (And.intro hd (And.intro hs (And.intro hnow h)))))))))
  have HME := Lib.hid hm
  clear hr hlen hL ha hnow h hW hright hs hm
  go_enter Try.func26, Try.ntmps26
  go_upto_region 5 with (first
    | (go_at_call 46; (with_reducible refine (HI.out b HP.out.2.2.2.2.2.1 _).mono ?_); rintro en w3 ⟨rfl, rfl⟩)
    | (go_at_call 46; (with_reducible refine (HI.out d HP.out.2.2.2.2.2.2.1 _).mono ?_); rintro en w3 ⟨rfl, rfl⟩)
    | (go_at_call 41; (with_reducible refine (HR.out _).mono ?_); rintro en w3 ⟨rfl, B3⟩; rw [← HWE.out] at B3; have HK := Lib.hid (HT.out.step B3); clear B3))
  have hr6 := heap_alloc_new w3 (.cells #[.func (.func 47) #[] #[.pointer (some ⟨w.heap.size + 1, 0, none⟩), .pointer (some ⟨w.heap.size, 0, none⟩)]] 97)
  have B6 := (Below.refl w3.heap.size w3).alloc (Nat.le_refl _) (.cells #[.func (.func 47) #[] #[.pointer (some ⟨w.heap.size + 1, 0, none⟩), .pointer (some ⟨w.heap.size, 0, none⟩)]] 97)
  have HX := Lib.hid (And.intro (HK.out.step B6) hr6)
  clear B6 hr6
  have HZL := Lib.hid HK.out.bl.size
  go_upto_region 6 with (fail)
  generalize w3.alloc _ = w6 at *
  generalize w3.heap.size = z at *
  obtain ⟨m0, m1, -⟩ := row2 HX.out.1.r2
  obtain ⟨p0, p1, -⟩ := row2 HX.out.1.r1
  obtain ⟨b0, -⟩ := row1 HX.out.1.r0
  obtain ⟨x0, -⟩ := row1 HX.out.2
  have hm := HME.out
  have hm0 : ¬ ((m : Int) = 65535) := by omega
  have hm1 : ((m : Int) == 65535) = false := by simp; omega
  have hwr : IntKind.u64.wrap ((now : Int) + 50) = ((now + 50 : Nat) : Int) := by rw [IntKind.wrap_u64]; have := HP.out.2.2.2.2.2.2.2.2.1; omega
  have heo : E.Ok ⟨a, n, b, d, s, m, now + 50⟩ := ⟨HP.out.2.2.2.1, HP.out.2.2.2.2.1, HP.out.2.2.2.2.2.1, HP.out.2.2.2.2.2.2.1, HP.out.2.2.2.2.2.2.2.1, hm, by show now + 50 < _; have := HP.out.2.2.2.2.2.2.2.2.1; omega⟩
  have c53 : Calls Try.prog 53 #[.pointer (some ⟨q, 0, none⟩), .agg #[.int .u32 (a : Int), .int .u8 (n : Int), .int .i64 (b : Int), .int .i64 (d : Int), .int .u16 (s : Int), .int .u16 (m : Int), .int .u64 ((now + 50 : Nat) : Int)], .func (.func 47) #[] #[.pointer (some ⟨w.heap.size + 1, 0, none⟩), .pointer (some ⟨w.heap.size, 0, none⟩)]] w6 (MvSaid lo w6 q v (putE L ⟨a, n, b, d, s, m, now + 50⟩) (.returned (.int .i64 0))) := by
    cases ht : there (E.key ⟨a, n, b, d, s, m, now + 50⟩) L with
    | true => exact keep_there w6 lo q L v HX.out.1.r HP.out.1 HP.out.2.2.1 HP.out.2.1 ⟨a, n, b, d, s, m, now + 50⟩ heo (w.heap.size + 1) w.heap.size HX.out.1.r1 HX.out.1.r0 ht
    | false => exact keep_new w6 lo q L v HX.out.1.r HP.out.1 HP.out.2.2.1 HP.out.2.1 ⟨a, n, b, d, s, m, now + 50⟩ heo (w.heap.size + 1) w.heap.size HX.out.1.r1 HX.out.1.r0 ht
  have HC := Lib.hid c53
  have hbz : w.heap.size + 2 < w6.heap.size := (Array.getElem?_eq_some_iff.1 HX.out.1.r2).1
  have hzz : z < w6.heap.size := (Array.getElem?_eq_some_iff.1 HX.out.2).1
  clear c53 heo hm
  go_wp2_with (go_at_call 53; go_loud (refine HC.out.mono ?_); rintro en w7 hmv; have HM := Lib.hid hmv; obtain ⟨rfl, -⟩ := hmv)
  go_ret
  exact HM.out.from HX.out.1.bl
end Go.Proofs.Ytkbhmdoichiinaa.Rts
