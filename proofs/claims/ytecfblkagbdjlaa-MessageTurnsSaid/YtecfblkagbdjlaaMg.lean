/- Contract: partOf. -/
import Derived.Test.YtecfblkagbdjlaaMf
namespace Go.Proofs.Ytecfblkagbdjlaa.Msg
open Go.ChangeShapes Go.WideShapes Go.ChangeAt Go.RowKit
open Coin (coin sz b8 Rd Row Own CoinOwn put_any sz_le length_coin takeV endV bytesV got got_lt Pur take_any)
set_option maxRecDepth 8000

def Pt.zero : Pt := ⟨0, 0, 0, 0, 0, 0, 0⟩
/-- What becomes of a part that was taken, with what is left of its bytes. -/
def poR (x : Pt) (l : List UInt8) (f : Nat) : Pt × Nat := if endV l f ≠ 0 then (Pt.zero, endV l f) else if x.rt then (x, 0) else (Pt.zero, 4)
def PoSaid (w : World) (r : Pt × Nat) (e : Ending) (w' : World) : Prop := e = .returned (.tuple #[.agg r.1.cl.toArray, .int .i64 (r.2 : Int)]) ∧ Below w.heap.size w w'
/-- What partOf has in memory. -/
structure Tp (w wx : World) (q b : Nat) (x : Array Value) (l : List UInt8) (f : Nat) : Prop where
  bl : Below w.heap.size w wx
  pu : Pur wx q l f
  r0 : wx.heap[w.heap.size]? = some (.cells #[.int .u8 0, .int .u64 0, .int .i64 0, .int .u32 0, .int .u8 0, .int .u16 0, .int .u16 0] 28 (0, 0))
  r1 : wx.heap[b]? = some (.cells x 28 (0, 0))
  lt : w.heap.size < q
  qb : q < b
theorem Tp.call {w wx w' : World} {q b : Nat} {x : Array Value} {l l' : List UInt8} {f f' : Nat} (h : Tp w wx q b x l f) (P : Pur w' q l' f') (G : wx.grownBy w' (some q)) : Tp w w' q b x l' f' := by
  have l2 := h.lt
  have l3 := h.qb
  have ne : ∀ k, k ≠ q → some k ≠ some q := fun k hk e => hk (by injection e)
  exact ⟨Coin.below_grown h.bl G (by omega), P, (G.block _ (Array.getElem?_eq_some_iff.1 h.r0).1 (ne _ (by omega))).trans h.r0, (G.block _ (Array.getElem?_eq_some_iff.1 h.r1).1 (ne _ (by omega))).trans h.r1, l2, l3⟩
theorem Tp.step {w wx w' : World} {q b : Nat} {x : Array Value} {l : List UInt8} {f : Nat} (h : Tp w wx q b x l f) (B : Below wx.heap.size wx w') : Tp w w' q b x l f :=
  ⟨h.bl.trans (B.mono h.bl.size), h.pu.below B, (B.block _ (Array.getElem?_eq_some_iff.1 h.r0).1).trans h.r0, (B.block _ (Array.getElem?_eq_some_iff.1 h.r1).1).trans h.r1, h.lt, h.qb⟩
theorem Tp.set {w wx : World} {q b : Nat} {x : Array Value} {l : List UInt8} {f : Nat} (h : Tp w wx q b x l f) (i : Nat) (v : Value) : Tp w (wx.setCell ⟨b, i, none⟩ v) q b (x.setIfInBounds i v) l f := by
  have l2 := h.lt
  have l3 := h.qb
  have hs := Below.heap_setCell wx ⟨b, i, none⟩ v
  exact ⟨h.bl.setCell (p := ⟨b, i, none⟩) (by show w.heap.size ≤ b; omega) v, h.pu.far fun k hk => hs k (by show k ≠ b; omega), (hs _ (by show w.heap.size ≠ b; omega)).trans h.r0, heap_setCell_same wx b i _ 28 v h.r1, l2, l3⟩
theorem Tp.new {w wn : World} {q k : Nat} {l : List UInt8} (B0 : Below w.heap.size w (w.alloc (.cells #[.int .u8 0, .int .u64 0, .int .i64 0, .int .u32 0, .int .u8 0, .int .u16 0, .int .u16 0] 28))) (R0 : (w.alloc (.cells #[.int .u8 0, .int .u64 0, .int .i64 0, .int .u32 0, .int .u8 0, .int .u16 0, .int .u16 0] 28)).heap[w.heap.size]? = some (.cells #[.int .u8 0, .int .u64 0, .int .i64 0, .int .u32 0, .int .u8 0, .int .u16 0, .int .u16 0] 28 (0, 0))) (P : Pur wn q l 0)
    (Bn : Below (w.alloc (.cells #[.int .u8 0, .int .u64 0, .int .i64 0, .int .u32 0, .int .u8 0, .int .u16 0, .int .u16 0] 28)).heap.size (w.alloc (.cells #[.int .u8 0, .int .u64 0, .int .i64 0, .int .u32 0, .int .u8 0, .int .u16 0, .int .u16 0] 28)) wn) (h1 : (w.alloc (.cells #[.int .u8 0, .int .u64 0, .int .i64 0, .int .u32 0, .int .u8 0, .int .u16 0, .int .u16 0] 28)).heap.size ≤ q) (h2 : q < wn.heap.size) :
    Tp w (wn.alloc (.cells #[.int .u8 (k : Int), .int .u64 0, .int .i64 0, .int .u32 0, .int .u8 0, .int .u16 0, .int .u16 0] 28)) q wn.heap.size #[.int .u8 (k : Int), .int .u64 0, .int .i64 0, .int .u32 0, .int .u8 0, .int .u16 0, .int .u16 0] l 0 := by
  have hb := B0.trans (Bn.mono B0.size)
  have B1 : Below wn.heap.size wn (wn.alloc (.cells #[.int .u8 (k : Int), .int .u64 0, .int .i64 0, .int .u32 0, .int .u8 0, .int .u16 0, .int .u16 0] 28)) := (Below.refl _ _).alloc (Nat.le_refl _) _
  have hq : w.heap.size < q := by simp at h1; omega
  exact ⟨hb.trans (B1.mono hb.size), P.below B1, (B1.block _ (by omega)).trans ((Bn.block _ (by simp)).trans R0), heap_alloc_new wn _, hq, h2⟩
set_option maxHeartbeats 1000000 in
theorem part1 (w : World) (A : Option Addr) (m cap : Nat) (own : List UInt8) (hm : m = own.length) (hl : m ≤ 100000) (hr : Rd w w.heap.size A own) (l1 : List UInt8) (f1 : Nat) (n1 : Nat) (C1 : ∀ q, TkC 38 #[.pointer (some ⟨q, 0, none⟩), .int .u64 4294967295] .u64 q own 0 n1 l1 f1) (hx : Pt.Fits ⟨1, n1, 0, 0, 0, 0, 0⟩) (hf : f1 ≤ 12) :
    Calls Try.prog 43 #[.int .u8 1, .slice A m cap] w (PoSaid w (poR ⟨1, n1, 0, 0, 0, 0, 0⟩ l1 f1)) := by
  have B0 : Below w.heap.size w (w.alloc (.cells #[.int .u8 0, .int .u64 0, .int .i64 0, .int .u32 0, .int .u8 0, .int .u16 0, .int .u16 0] 28)) := (Below.refl _ _).alloc (Nat.le_refl _) _
  have R0 := heap_alloc_new w (.cells #[.int .u8 0, .int .u64 0, .int .i64 0, .int .u32 0, .int .u8 0, .int .u16 0, .int .u16 0] 28)
  have hnew := Coin.new_any A cap own (w.alloc (.cells #[.int .u8 0, .int .u64 0, .int .i64 0, .int .u32 0, .int .u8 0, .int .u16 0, .int .u16 0] 28)) (by omega) ((hr.below B0 (Nat.le_refl _)).more (by simp))
  rw [← hm] at hnew
  have HN := Lib.hid (And.intro hnew (And.intro B0 R0))
  have HC := Lib.hid (C1)
  have hrt := fun W => right_any ⟨1, n1, 0, 0, 0, 0, 0⟩ hx W
  have hrt : ∀ W, Calls Try.prog 13 #[.agg #[.int .u8 1, .int .u64 (n1 : Int), .int .i64 0, .int .u32 0, .int .u8 0, .int .u16 0, .int .u16 0]] W fun e w' => e = .returned (.bool (Pt.rt ⟨1, n1, 0, 0, 0, 0, 0⟩)) ∧ Below W.heap.size W w' := hrt
  have HR := Lib.hid hrt
  have hend := fun q W (h : Pur W q l1 f1) => Coin.end_any W q l1 f1 h
  have hpo : poR ⟨1, n1, 0, 0, 0, 0, 0⟩ l1 f1 = if endV l1 f1 ≠ 0 then (Pt.zero, endV l1 f1) else if Pt.rt ⟨1, n1, 0, 0, 0, 0, 0⟩ then (⟨1, n1, 0, 0, 0, 0, 0⟩, 0) else (Pt.zero, 4) := rfl
  have hle : endV l1 f1 ≤ 12 := by unfold endV; split <;> omega
  generalize Pt.rt ⟨1, n1, 0, 0, 0, 0, 0⟩ = rt at *
  generalize endV l1 f1 = ev at *
  have HE := Lib.hid hend
  have HPO := Lib.hid hpo
  clear hnew B0 R0 C1 hrt hend hr hm hx
  generalize poR _ l1 f1 = po at *
  clear hpo
  go_enter Try.func43, Try.ntmps43
  go_upto_region 3 with (go_at_call 28; (with_reducible refine HN.out.1.mono ?_); rintro e wn ⟨q, rfl, Pn, hq1, hq2, Bn⟩; have HM := Lib.hid (And.intro Pn (And.intro Bn (And.intro hq1 hq2))); clear Pn Bn hq1 hq2)
  have HT0 := Lib.hid (Tp.new (k := 1) HN.out.2.1 HN.out.2.2 HM.out.1 HM.out.2.1 HM.out.2.2.1 HM.out.2.2.2)
  clear HN HM
  generalize wn.alloc _ = w0 at *
  generalize wn.heap.size = b at *
  obtain ⟨⟨m0, m1, m2, m3, m4, m5, m6⟩, mf⟩ := row7 HT0.out.r1
  have e0 : b < w0.heap.size := (Array.getElem?_eq_some_iff.1 HT0.out.r1).1
  by_cases hev : ev = 0
  · subst hev
    cases rt
    · have hres : po = (Pt.zero, 4) := by rw [HPO.out]; rfl
      subst hres
      go_wp2_with (first
    | (go_at_call 38; (with_reducible refine (HC.out _ _ HT0.out.pu).mono ?_); rintro e w1 ⟨rfl, P1, G1⟩; clear m0 m1 m2 m3 m4 m5 m6 mf; obtain ⟨⟨m0, m1, m2, m3, m4, m5, m6⟩, mf⟩ := row7 (HT0.out.call P1 G1).r1; have e1 : b < w1.heap.size := (Array.getElem?_eq_some_iff.1 (HT0.out.call P1 G1).r1).1; have HT1 := Lib.hid (show Tp w (w1.setCell ⟨b, 1, none⟩ (.int .u64 (n1 : Int))) q b #[.int .u8 1, .int .u64 (n1 : Int), .int .i64 0, .int .u32 0, .int .u8 0, .int .u16 0, .int .u16 0] l1 f1 from ((HT0.out.call P1 G1).set 1 (.int .u64 (n1 : Int)))); clear P1 G1)
    | (go_at_call 44; (with_reducible refine (HE.out _ _ HT1.out.pu).mono ?_); rintro e wz ⟨rfl, ewz⟩; clear m0 m1 m2 m3 m4 m5 m6 mf; have HTz := Lib.hid (show Tp w wz q b #[.int .u8 1, .int .u64 (n1 : Int), .int .i64 0, .int .u32 0, .int .u8 0, .int .u16 0, .int .u16 0] l1 f1 from ewz ▸ HT1.out); clear ewz; obtain ⟨⟨m0, m1, m2, m3, m4, m5, m6⟩, mf⟩ := row7 HTz.out.r1)
    | (go_at_call 13; (with_reducible refine (HR.out _).mono ?_); rintro e wy ⟨rfl, By⟩; have HTy := Lib.hid (HTz.out.step By); clear By; have r0 := HTy.out.r0)
    | (with_reducible refine put28 rfl (.tmp 4) (.tmp 61) rfl w.heap.size rfl r0 rfl ?_; intro wx Ex Gx))
      (try simp only [Exit.inBlock, Exit.then])
      exact bodyPost_ret (res28 rfl _ _ w.heap.size 28 _ (0, 0) rfl Ex rfl) rfl ⟨rfl, HTy.out.bl.grown Gx HTy.out.bl.size (fun k h => by cases h; exact Nat.le_refl _)⟩
    · have hres : po = (⟨1, n1, 0, 0, 0, 0, 0⟩, 0) := by rw [HPO.out]; rfl
      subst hres
      go_wp2_with (first
    | (go_at_call 38; (with_reducible refine (HC.out _ _ HT0.out.pu).mono ?_); rintro e w1 ⟨rfl, P1, G1⟩; clear m0 m1 m2 m3 m4 m5 m6 mf; obtain ⟨⟨m0, m1, m2, m3, m4, m5, m6⟩, mf⟩ := row7 (HT0.out.call P1 G1).r1; have e1 : b < w1.heap.size := (Array.getElem?_eq_some_iff.1 (HT0.out.call P1 G1).r1).1; have HT1 := Lib.hid (show Tp w (w1.setCell ⟨b, 1, none⟩ (.int .u64 (n1 : Int))) q b #[.int .u8 1, .int .u64 (n1 : Int), .int .i64 0, .int .u32 0, .int .u8 0, .int .u16 0, .int .u16 0] l1 f1 from ((HT0.out.call P1 G1).set 1 (.int .u64 (n1 : Int)))); clear P1 G1)
    | (go_at_call 44; (with_reducible refine (HE.out _ _ HT1.out.pu).mono ?_); rintro e wz ⟨rfl, ewz⟩; clear m0 m1 m2 m3 m4 m5 m6 mf; have HTz := Lib.hid (show Tp w wz q b #[.int .u8 1, .int .u64 (n1 : Int), .int .i64 0, .int .u32 0, .int .u8 0, .int .u16 0, .int .u16 0] l1 f1 from ewz ▸ HT1.out); clear ewz; obtain ⟨⟨m0, m1, m2, m3, m4, m5, m6⟩, mf⟩ := row7 HTz.out.r1)
    | (go_at_call 13; (with_reducible refine (HR.out _).mono ?_); rintro e wy ⟨rfl, By⟩; clear m0 m1 m2 m3 m4 m5 m6 mf; have HTy := Lib.hid (HTz.out.step By); clear By; have r0 := HTy.out.r0; obtain ⟨⟨m0, m1, m2, m3, m4, m5, m6⟩, mf⟩ := row7 HTy.out.r1)
    | (with_reducible refine put28 rfl (.tmp 4) (.tmp 62) rfl w.heap.size rfl r0 rfl ?_; intro wx Ex Gx))
      (try simp only [Exit.inBlock, Exit.then])
      exact bodyPost_ret (res28 rfl _ _ w.heap.size 28 _ (0, 0) rfl Ex rfl) rfl ⟨rfl, HTy.out.bl.grown Gx HTy.out.bl.size (fun k h => by cases h; exact Nat.le_refl _)⟩
  · have hres : po = (Pt.zero, ev) := by rw [HPO.out, if_pos hev]
    subst hres
    have hbe : (((ev : Nat) : Int) == 0) = false := by simp; omega
    have hbn : (((ev : Nat) : Int) != 0) = true := by simp; omega
    go_wp2_with (first
    | (go_at_call 38; (with_reducible refine (HC.out _ _ HT0.out.pu).mono ?_); rintro e w1 ⟨rfl, P1, G1⟩; clear m0 m1 m2 m3 m4 m5 m6 mf; obtain ⟨⟨m0, m1, m2, m3, m4, m5, m6⟩, mf⟩ := row7 (HT0.out.call P1 G1).r1; have e1 : b < w1.heap.size := (Array.getElem?_eq_some_iff.1 (HT0.out.call P1 G1).r1).1; have HT1 := Lib.hid (show Tp w (w1.setCell ⟨b, 1, none⟩ (.int .u64 (n1 : Int))) q b #[.int .u8 1, .int .u64 (n1 : Int), .int .i64 0, .int .u32 0, .int .u8 0, .int .u16 0, .int .u16 0] l1 f1 from ((HT0.out.call P1 G1).set 1 (.int .u64 (n1 : Int)))); clear P1 G1)
    | (go_at_call 44; (with_reducible refine (HE.out _ _ HT1.out.pu).mono ?_); rintro e wz ⟨rfl, ewz⟩; clear m0 m1 m2 m3 m4 m5 m6 mf; have HTz := Lib.hid (show Tp w wz q b #[.int .u8 1, .int .u64 (n1 : Int), .int .i64 0, .int .u32 0, .int .u8 0, .int .u16 0, .int .u16 0] l1 f1 from ewz ▸ HT1.out); clear ewz; have r0 := HTz.out.r0)
    | (with_reducible refine put28 rfl (.tmp 4) (.tmp 56) rfl w.heap.size rfl r0 rfl ?_; intro wx Ex Gx))
    (try simp only [Exit.inBlock, Exit.then])
    exact bodyPost_ret (res28 rfl _ _ w.heap.size 28 _ (0, 0) rfl Ex rfl) rfl ⟨rfl, HTz.out.bl.grown Gx HTz.out.bl.size (fun k h => by cases h; exact Nat.le_refl _)⟩
set_option maxHeartbeats 1000000 in
theorem part2 (w : World) (A : Option Addr) (m cap : Nat) (own : List UInt8) (hm : m = own.length) (hl : m ≤ 100000) (hr : Rd w w.heap.size A own) (l1 : List UInt8) (f1 : Nat) (n1 : Nat) (l2 : List UInt8) (f2 : Nat) (n2 : Nat) (C1 : ∀ q, TkC 29 #[.pointer (some ⟨q, 0, none⟩)] .i64 q own 0 n1 l1 f1) (C2 : ∀ q, TkC 49 #[.pointer (some ⟨q, 0, none⟩)] .u16 q l1 f1 n2 l2 f2) (hx : Pt.Fits ⟨2, 0, (n1 : Int), 0, 0, 0, n2⟩) (hf : f2 ≤ 12) :
    Calls Try.prog 43 #[.int .u8 2, .slice A m cap] w (PoSaid w (poR ⟨2, 0, (n1 : Int), 0, 0, 0, n2⟩ l2 f2)) := by
  have B0 : Below w.heap.size w (w.alloc (.cells #[.int .u8 0, .int .u64 0, .int .i64 0, .int .u32 0, .int .u8 0, .int .u16 0, .int .u16 0] 28)) := (Below.refl _ _).alloc (Nat.le_refl _) _
  have R0 := heap_alloc_new w (.cells #[.int .u8 0, .int .u64 0, .int .i64 0, .int .u32 0, .int .u8 0, .int .u16 0, .int .u16 0] 28)
  have hnew := Coin.new_any A cap own (w.alloc (.cells #[.int .u8 0, .int .u64 0, .int .i64 0, .int .u32 0, .int .u8 0, .int .u16 0, .int .u16 0] 28)) (by omega) ((hr.below B0 (Nat.le_refl _)).more (by simp))
  rw [← hm] at hnew
  have HN := Lib.hid (And.intro hnew (And.intro B0 R0))
  have HC := Lib.hid ((And.intro C1 C2))
  have hrt := fun W => right_any ⟨2, 0, (n1 : Int), 0, 0, 0, n2⟩ hx W
  have hrt : ∀ W, Calls Try.prog 13 #[.agg #[.int .u8 2, .int .u64 0, .int .i64 (n1 : Int), .int .u32 0, .int .u8 0, .int .u16 0, .int .u16 (n2 : Int)]] W fun e w' => e = .returned (.bool (Pt.rt ⟨2, 0, (n1 : Int), 0, 0, 0, n2⟩)) ∧ Below W.heap.size W w' := hrt
  have HR := Lib.hid hrt
  have hend := fun q W (h : Pur W q l2 f2) => Coin.end_any W q l2 f2 h
  have hpo : poR ⟨2, 0, (n1 : Int), 0, 0, 0, n2⟩ l2 f2 = if endV l2 f2 ≠ 0 then (Pt.zero, endV l2 f2) else if Pt.rt ⟨2, 0, (n1 : Int), 0, 0, 0, n2⟩ then (⟨2, 0, (n1 : Int), 0, 0, 0, n2⟩, 0) else (Pt.zero, 4) := rfl
  have hle : endV l2 f2 ≤ 12 := by unfold endV; split <;> omega
  generalize Pt.rt ⟨2, 0, (n1 : Int), 0, 0, 0, n2⟩ = rt at *
  generalize endV l2 f2 = ev at *
  have HE := Lib.hid hend
  have HPO := Lib.hid hpo
  clear hnew B0 R0 C1 C2 hrt hend hr hm hx
  generalize poR _ l2 f2 = po at *
  clear hpo
  go_enter Try.func43, Try.ntmps43
  go_upto_region 3 with (go_at_call 28; (with_reducible refine HN.out.1.mono ?_); rintro e wn ⟨q, rfl, Pn, hq1, hq2, Bn⟩; have HM := Lib.hid (And.intro Pn (And.intro Bn (And.intro hq1 hq2))); clear Pn Bn hq1 hq2)
  have HT0 := Lib.hid (Tp.new (k := 2) HN.out.2.1 HN.out.2.2 HM.out.1 HM.out.2.1 HM.out.2.2.1 HM.out.2.2.2)
  clear HN HM
  generalize wn.alloc _ = w0 at *
  generalize wn.heap.size = b at *
  obtain ⟨⟨m0, m1, m2, m3, m4, m5, m6⟩, mf⟩ := row7 HT0.out.r1
  have e0 : b < w0.heap.size := (Array.getElem?_eq_some_iff.1 HT0.out.r1).1
  by_cases hev : ev = 0
  · subst hev
    cases rt
    · have hres : po = (Pt.zero, 4) := by rw [HPO.out]; rfl
      subst hres
      go_wp2_with (first
    | (go_at_call 29; (with_reducible refine (HC.out.1 _ _ HT0.out.pu).mono ?_); rintro e w1 ⟨rfl, P1, G1⟩; clear m0 m1 m2 m3 m4 m5 m6 mf; obtain ⟨⟨m0, m1, m2, m3, m4, m5, m6⟩, mf⟩ := row7 (HT0.out.call P1 G1).r1; have e1 : b < w1.heap.size := (Array.getElem?_eq_some_iff.1 (HT0.out.call P1 G1).r1).1; have HT1 := Lib.hid (show Tp w (w1.setCell ⟨b, 2, none⟩ (.int .i64 (n1 : Int))) q b #[.int .u8 2, .int .u64 0, .int .i64 (n1 : Int), .int .u32 0, .int .u8 0, .int .u16 0, .int .u16 0] l1 f1 from ((HT0.out.call P1 G1).set 2 (.int .i64 (n1 : Int)))); clear P1 G1)
    | (go_at_call 49; (with_reducible refine (HC.out.2 _ _ HT1.out.pu).mono ?_); rintro e w2 ⟨rfl, P2, G2⟩; clear m0 m1 m2 m3 m4 m5 m6 mf; obtain ⟨⟨m0, m1, m2, m3, m4, m5, m6⟩, mf⟩ := row7 (HT1.out.call P2 G2).r1; have e2 : b < w2.heap.size := (Array.getElem?_eq_some_iff.1 (HT1.out.call P2 G2).r1).1; have HT2 := Lib.hid (show Tp w (w2.setCell ⟨b, 6, none⟩ (.int .u16 (n2 : Int))) q b #[.int .u8 2, .int .u64 0, .int .i64 (n1 : Int), .int .u32 0, .int .u8 0, .int .u16 0, .int .u16 (n2 : Int)] l2 f2 from ((HT1.out.call P2 G2).set 6 (.int .u16 (n2 : Int)))); clear P2 G2)
    | (go_at_call 44; (with_reducible refine (HE.out _ _ HT2.out.pu).mono ?_); rintro e wz ⟨rfl, ewz⟩; clear m0 m1 m2 m3 m4 m5 m6 mf; have HTz := Lib.hid (show Tp w wz q b #[.int .u8 2, .int .u64 0, .int .i64 (n1 : Int), .int .u32 0, .int .u8 0, .int .u16 0, .int .u16 (n2 : Int)] l2 f2 from ewz ▸ HT2.out); clear ewz; obtain ⟨⟨m0, m1, m2, m3, m4, m5, m6⟩, mf⟩ := row7 HTz.out.r1)
    | (go_at_call 13; (with_reducible refine (HR.out _).mono ?_); rintro e wy ⟨rfl, By⟩; have HTy := Lib.hid (HTz.out.step By); clear By; have r0 := HTy.out.r0)
    | (with_reducible refine put28 rfl (.tmp 4) (.tmp 61) rfl w.heap.size rfl r0 rfl ?_; intro wx Ex Gx))
      (try simp only [Exit.inBlock, Exit.then])
      exact bodyPost_ret (res28 rfl _ _ w.heap.size 28 _ (0, 0) rfl Ex rfl) rfl ⟨rfl, HTy.out.bl.grown Gx HTy.out.bl.size (fun k h => by cases h; exact Nat.le_refl _)⟩
    · have hres : po = (⟨2, 0, (n1 : Int), 0, 0, 0, n2⟩, 0) := by rw [HPO.out]; rfl
      subst hres
      go_wp2_with (first
    | (go_at_call 29; (with_reducible refine (HC.out.1 _ _ HT0.out.pu).mono ?_); rintro e w1 ⟨rfl, P1, G1⟩; clear m0 m1 m2 m3 m4 m5 m6 mf; obtain ⟨⟨m0, m1, m2, m3, m4, m5, m6⟩, mf⟩ := row7 (HT0.out.call P1 G1).r1; have e1 : b < w1.heap.size := (Array.getElem?_eq_some_iff.1 (HT0.out.call P1 G1).r1).1; have HT1 := Lib.hid (show Tp w (w1.setCell ⟨b, 2, none⟩ (.int .i64 (n1 : Int))) q b #[.int .u8 2, .int .u64 0, .int .i64 (n1 : Int), .int .u32 0, .int .u8 0, .int .u16 0, .int .u16 0] l1 f1 from ((HT0.out.call P1 G1).set 2 (.int .i64 (n1 : Int)))); clear P1 G1)
    | (go_at_call 49; (with_reducible refine (HC.out.2 _ _ HT1.out.pu).mono ?_); rintro e w2 ⟨rfl, P2, G2⟩; clear m0 m1 m2 m3 m4 m5 m6 mf; obtain ⟨⟨m0, m1, m2, m3, m4, m5, m6⟩, mf⟩ := row7 (HT1.out.call P2 G2).r1; have e2 : b < w2.heap.size := (Array.getElem?_eq_some_iff.1 (HT1.out.call P2 G2).r1).1; have HT2 := Lib.hid (show Tp w (w2.setCell ⟨b, 6, none⟩ (.int .u16 (n2 : Int))) q b #[.int .u8 2, .int .u64 0, .int .i64 (n1 : Int), .int .u32 0, .int .u8 0, .int .u16 0, .int .u16 (n2 : Int)] l2 f2 from ((HT1.out.call P2 G2).set 6 (.int .u16 (n2 : Int)))); clear P2 G2)
    | (go_at_call 44; (with_reducible refine (HE.out _ _ HT2.out.pu).mono ?_); rintro e wz ⟨rfl, ewz⟩; clear m0 m1 m2 m3 m4 m5 m6 mf; have HTz := Lib.hid (show Tp w wz q b #[.int .u8 2, .int .u64 0, .int .i64 (n1 : Int), .int .u32 0, .int .u8 0, .int .u16 0, .int .u16 (n2 : Int)] l2 f2 from ewz ▸ HT2.out); clear ewz; obtain ⟨⟨m0, m1, m2, m3, m4, m5, m6⟩, mf⟩ := row7 HTz.out.r1)
    | (go_at_call 13; (with_reducible refine (HR.out _).mono ?_); rintro e wy ⟨rfl, By⟩; clear m0 m1 m2 m3 m4 m5 m6 mf; have HTy := Lib.hid (HTz.out.step By); clear By; have r0 := HTy.out.r0; obtain ⟨⟨m0, m1, m2, m3, m4, m5, m6⟩, mf⟩ := row7 HTy.out.r1)
    | (with_reducible refine put28 rfl (.tmp 4) (.tmp 62) rfl w.heap.size rfl r0 rfl ?_; intro wx Ex Gx))
      (try simp only [Exit.inBlock, Exit.then])
      exact bodyPost_ret (res28 rfl _ _ w.heap.size 28 _ (0, 0) rfl Ex rfl) rfl ⟨rfl, HTy.out.bl.grown Gx HTy.out.bl.size (fun k h => by cases h; exact Nat.le_refl _)⟩
  · have hres : po = (Pt.zero, ev) := by rw [HPO.out, if_pos hev]
    subst hres
    have hbe : (((ev : Nat) : Int) == 0) = false := by simp; omega
    have hbn : (((ev : Nat) : Int) != 0) = true := by simp; omega
    go_wp2_with (first
    | (go_at_call 29; (with_reducible refine (HC.out.1 _ _ HT0.out.pu).mono ?_); rintro e w1 ⟨rfl, P1, G1⟩; clear m0 m1 m2 m3 m4 m5 m6 mf; obtain ⟨⟨m0, m1, m2, m3, m4, m5, m6⟩, mf⟩ := row7 (HT0.out.call P1 G1).r1; have e1 : b < w1.heap.size := (Array.getElem?_eq_some_iff.1 (HT0.out.call P1 G1).r1).1; have HT1 := Lib.hid (show Tp w (w1.setCell ⟨b, 2, none⟩ (.int .i64 (n1 : Int))) q b #[.int .u8 2, .int .u64 0, .int .i64 (n1 : Int), .int .u32 0, .int .u8 0, .int .u16 0, .int .u16 0] l1 f1 from ((HT0.out.call P1 G1).set 2 (.int .i64 (n1 : Int)))); clear P1 G1)
    | (go_at_call 49; (with_reducible refine (HC.out.2 _ _ HT1.out.pu).mono ?_); rintro e w2 ⟨rfl, P2, G2⟩; clear m0 m1 m2 m3 m4 m5 m6 mf; obtain ⟨⟨m0, m1, m2, m3, m4, m5, m6⟩, mf⟩ := row7 (HT1.out.call P2 G2).r1; have e2 : b < w2.heap.size := (Array.getElem?_eq_some_iff.1 (HT1.out.call P2 G2).r1).1; have HT2 := Lib.hid (show Tp w (w2.setCell ⟨b, 6, none⟩ (.int .u16 (n2 : Int))) q b #[.int .u8 2, .int .u64 0, .int .i64 (n1 : Int), .int .u32 0, .int .u8 0, .int .u16 0, .int .u16 (n2 : Int)] l2 f2 from ((HT1.out.call P2 G2).set 6 (.int .u16 (n2 : Int)))); clear P2 G2)
    | (go_at_call 44; (with_reducible refine (HE.out _ _ HT2.out.pu).mono ?_); rintro e wz ⟨rfl, ewz⟩; clear m0 m1 m2 m3 m4 m5 m6 mf; have HTz := Lib.hid (show Tp w wz q b #[.int .u8 2, .int .u64 0, .int .i64 (n1 : Int), .int .u32 0, .int .u8 0, .int .u16 0, .int .u16 (n2 : Int)] l2 f2 from ewz ▸ HT2.out); clear ewz; have r0 := HTz.out.r0)
    | (with_reducible refine put28 rfl (.tmp 4) (.tmp 56) rfl w.heap.size rfl r0 rfl ?_; intro wx Ex Gx))
    (try simp only [Exit.inBlock, Exit.then])
    exact bodyPost_ret (res28 rfl _ _ w.heap.size 28 _ (0, 0) rfl Ex rfl) rfl ⟨rfl, HTz.out.bl.grown Gx HTz.out.bl.size (fun k h => by cases h; exact Nat.le_refl _)⟩
set_option maxHeartbeats 1000000 in
theorem part3 (w : World) (A : Option Addr) (m cap : Nat) (own : List UInt8) (hm : m = own.length) (hl : m ≤ 100000) (hr : Rd w w.heap.size A own) (l1 : List UInt8) (f1 : Nat) (n1 : Nat) (l2 : List UInt8) (f2 : Nat) (a2 b2 : Nat) (l3 : List UInt8) (f3 : Nat) (n3 : Nat) (l4 : List UInt8) (f4 : Nat) (n4 : Nat) (C1 : ∀ q, TkC 29 #[.pointer (some ⟨q, 0, none⟩)] .i64 q own 0 n1 l1 f1) (C2 : ∀ q W, Pur W q l1 f1 → Calls Try.prog 50 #[.pointer (some ⟨q, 0, none⟩)] W fun e w' => e = .returned (.agg #[.int .u32 (a2 : Int), .int .u8 (b2 : Int)]) ∧ Pur w' q l2 f2 ∧ W.grownBy w' (some q)) (C3 : ∀ q, TkC 49 #[.pointer (some ⟨q, 0, none⟩)] .u16 q l2 f2 n3 l3 f3) (C4 : ∀ q, TkC 49 #[.pointer (some ⟨q, 0, none⟩)] .u16 q l3 f3 n4 l4 f4) (hx : Pt.Fits ⟨3, 0, (n1 : Int), a2, b2, n3, n4⟩) (hf : f4 ≤ 12) :
    Calls Try.prog 43 #[.int .u8 3, .slice A m cap] w (PoSaid w (poR ⟨3, 0, (n1 : Int), a2, b2, n3, n4⟩ l4 f4)) := by
  have B0 : Below w.heap.size w (w.alloc (.cells #[.int .u8 0, .int .u64 0, .int .i64 0, .int .u32 0, .int .u8 0, .int .u16 0, .int .u16 0] 28)) := (Below.refl _ _).alloc (Nat.le_refl _) _
  have R0 := heap_alloc_new w (.cells #[.int .u8 0, .int .u64 0, .int .i64 0, .int .u32 0, .int .u8 0, .int .u16 0, .int .u16 0] 28)
  have hnew := Coin.new_any A cap own (w.alloc (.cells #[.int .u8 0, .int .u64 0, .int .i64 0, .int .u32 0, .int .u8 0, .int .u16 0, .int .u16 0] 28)) (by omega) ((hr.below B0 (Nat.le_refl _)).more (by simp))
  rw [← hm] at hnew
  have HN := Lib.hid (And.intro hnew (And.intro B0 R0))
  have HC := Lib.hid ((And.intro C1 (And.intro C2 (And.intro C3 C4))))
  have hrt := fun W => right_any ⟨3, 0, (n1 : Int), a2, b2, n3, n4⟩ hx W
  have hrt : ∀ W, Calls Try.prog 13 #[.agg #[.int .u8 3, .int .u64 0, .int .i64 (n1 : Int), .int .u32 (a2 : Int), .int .u8 (b2 : Int), .int .u16 (n3 : Int), .int .u16 (n4 : Int)]] W fun e w' => e = .returned (.bool (Pt.rt ⟨3, 0, (n1 : Int), a2, b2, n3, n4⟩)) ∧ Below W.heap.size W w' := hrt
  have HR := Lib.hid hrt
  have hend := fun q W (h : Pur W q l4 f4) => Coin.end_any W q l4 f4 h
  have hpo : poR ⟨3, 0, (n1 : Int), a2, b2, n3, n4⟩ l4 f4 = if endV l4 f4 ≠ 0 then (Pt.zero, endV l4 f4) else if Pt.rt ⟨3, 0, (n1 : Int), a2, b2, n3, n4⟩ then (⟨3, 0, (n1 : Int), a2, b2, n3, n4⟩, 0) else (Pt.zero, 4) := rfl
  have hle : endV l4 f4 ≤ 12 := by unfold endV; split <;> omega
  generalize Pt.rt ⟨3, 0, (n1 : Int), a2, b2, n3, n4⟩ = rt at *
  generalize endV l4 f4 = ev at *
  have HE := Lib.hid hend
  have HPO := Lib.hid hpo
  clear hnew B0 R0 C1 C2 C3 C4 hrt hend hr hm hx
  generalize poR _ l4 f4 = po at *
  clear hpo
  go_enter Try.func43, Try.ntmps43
  go_upto_region 3 with (go_at_call 28; (with_reducible refine HN.out.1.mono ?_); rintro e wn ⟨q, rfl, Pn, hq1, hq2, Bn⟩; have HM := Lib.hid (And.intro Pn (And.intro Bn (And.intro hq1 hq2))); clear Pn Bn hq1 hq2)
  have HT0 := Lib.hid (Tp.new (k := 3) HN.out.2.1 HN.out.2.2 HM.out.1 HM.out.2.1 HM.out.2.2.1 HM.out.2.2.2)
  clear HN HM
  generalize wn.alloc _ = w0 at *
  generalize wn.heap.size = b at *
  obtain ⟨⟨m0, m1, m2, m3, m4, m5, m6⟩, mf⟩ := row7 HT0.out.r1
  have e0 : b < w0.heap.size := (Array.getElem?_eq_some_iff.1 HT0.out.r1).1
  by_cases hev : ev = 0
  · subst hev
    cases rt
    · have hres : po = (Pt.zero, 4) := by rw [HPO.out]; rfl
      subst hres
      go_wp2_with (first
    | (go_at_call 29; (with_reducible refine (HC.out.1 _ _ HT0.out.pu).mono ?_); rintro e w1 ⟨rfl, P1, G1⟩; clear m0 m1 m2 m3 m4 m5 m6 mf; obtain ⟨⟨m0, m1, m2, m3, m4, m5, m6⟩, mf⟩ := row7 (HT0.out.call P1 G1).r1; have e1 : b < w1.heap.size := (Array.getElem?_eq_some_iff.1 (HT0.out.call P1 G1).r1).1; have HT1 := Lib.hid (show Tp w (w1.setCell ⟨b, 2, none⟩ (.int .i64 (n1 : Int))) q b #[.int .u8 3, .int .u64 0, .int .i64 (n1 : Int), .int .u32 0, .int .u8 0, .int .u16 0, .int .u16 0] l1 f1 from ((HT0.out.call P1 G1).set 2 (.int .i64 (n1 : Int)))); clear P1 G1)
    | (go_at_call 50; (with_reducible refine (HC.out.2.1 _ _ HT1.out.pu).mono ?_); rintro e w2 ⟨rfl, P2, G2⟩; clear m0 m1 m2 m3 m4 m5 m6 mf; obtain ⟨⟨m0, m1, m2, m3, m4, m5, m6⟩, mf⟩ := row7 (HT1.out.call P2 G2).r1; have e2 : b < w2.heap.size := (Array.getElem?_eq_some_iff.1 (HT1.out.call P2 G2).r1).1; have HT2 := Lib.hid (show Tp w ((w2.setCell ⟨b, 3, none⟩ (.int .u32 (a2 : Int))).setCell ⟨b, 4, none⟩ (.int .u8 (b2 : Int))) q b #[.int .u8 3, .int .u64 0, .int .i64 (n1 : Int), .int .u32 (a2 : Int), .int .u8 (b2 : Int), .int .u16 0, .int .u16 0] l2 f2 from (((HT1.out.call P2 G2).set 3 (.int .u32 (a2 : Int))).set 4 (.int .u8 (b2 : Int)))); clear P2 G2)
    | (go_at_call 49; (with_reducible refine (HC.out.2.2.1 _ _ HT2.out.pu).mono ?_); rintro e w3 ⟨rfl, P3, G3⟩; clear m0 m1 m2 m3 m4 m5 m6 mf; obtain ⟨⟨m0, m1, m2, m3, m4, m5, m6⟩, mf⟩ := row7 (HT2.out.call P3 G3).r1; have e3 : b < w3.heap.size := (Array.getElem?_eq_some_iff.1 (HT2.out.call P3 G3).r1).1; have HT3 := Lib.hid (show Tp w (w3.setCell ⟨b, 5, none⟩ (.int .u16 (n3 : Int))) q b #[.int .u8 3, .int .u64 0, .int .i64 (n1 : Int), .int .u32 (a2 : Int), .int .u8 (b2 : Int), .int .u16 (n3 : Int), .int .u16 0] l3 f3 from ((HT2.out.call P3 G3).set 5 (.int .u16 (n3 : Int)))); clear P3 G3)
    | (go_at_call 49; (with_reducible refine (HC.out.2.2.2 _ _ HT3.out.pu).mono ?_); rintro e w4 ⟨rfl, P4, G4⟩; clear m0 m1 m2 m3 m4 m5 m6 mf; obtain ⟨⟨m0, m1, m2, m3, m4, m5, m6⟩, mf⟩ := row7 (HT3.out.call P4 G4).r1; have e4 : b < w4.heap.size := (Array.getElem?_eq_some_iff.1 (HT3.out.call P4 G4).r1).1; have HT4 := Lib.hid (show Tp w (w4.setCell ⟨b, 6, none⟩ (.int .u16 (n4 : Int))) q b #[.int .u8 3, .int .u64 0, .int .i64 (n1 : Int), .int .u32 (a2 : Int), .int .u8 (b2 : Int), .int .u16 (n3 : Int), .int .u16 (n4 : Int)] l4 f4 from ((HT3.out.call P4 G4).set 6 (.int .u16 (n4 : Int)))); clear P4 G4)
    | (go_at_call 44; (with_reducible refine (HE.out _ _ HT4.out.pu).mono ?_); rintro e wz ⟨rfl, ewz⟩; clear m0 m1 m2 m3 m4 m5 m6 mf; have HTz := Lib.hid (show Tp w wz q b #[.int .u8 3, .int .u64 0, .int .i64 (n1 : Int), .int .u32 (a2 : Int), .int .u8 (b2 : Int), .int .u16 (n3 : Int), .int .u16 (n4 : Int)] l4 f4 from ewz ▸ HT4.out); clear ewz; obtain ⟨⟨m0, m1, m2, m3, m4, m5, m6⟩, mf⟩ := row7 HTz.out.r1)
    | (go_at_call 13; (with_reducible refine (HR.out _).mono ?_); rintro e wy ⟨rfl, By⟩; have HTy := Lib.hid (HTz.out.step By); clear By; have r0 := HTy.out.r0)
    | (with_reducible refine put28 rfl (.tmp 4) (.tmp 61) rfl w.heap.size rfl r0 rfl ?_; intro wx Ex Gx))
      (try simp only [Exit.inBlock, Exit.then])
      exact bodyPost_ret (res28 rfl _ _ w.heap.size 28 _ (0, 0) rfl Ex rfl) rfl ⟨rfl, HTy.out.bl.grown Gx HTy.out.bl.size (fun k h => by cases h; exact Nat.le_refl _)⟩
    · have hres : po = (⟨3, 0, (n1 : Int), a2, b2, n3, n4⟩, 0) := by rw [HPO.out]; rfl
      subst hres
      go_wp2_with (first
    | (go_at_call 29; (with_reducible refine (HC.out.1 _ _ HT0.out.pu).mono ?_); rintro e w1 ⟨rfl, P1, G1⟩; clear m0 m1 m2 m3 m4 m5 m6 mf; obtain ⟨⟨m0, m1, m2, m3, m4, m5, m6⟩, mf⟩ := row7 (HT0.out.call P1 G1).r1; have e1 : b < w1.heap.size := (Array.getElem?_eq_some_iff.1 (HT0.out.call P1 G1).r1).1; have HT1 := Lib.hid (show Tp w (w1.setCell ⟨b, 2, none⟩ (.int .i64 (n1 : Int))) q b #[.int .u8 3, .int .u64 0, .int .i64 (n1 : Int), .int .u32 0, .int .u8 0, .int .u16 0, .int .u16 0] l1 f1 from ((HT0.out.call P1 G1).set 2 (.int .i64 (n1 : Int)))); clear P1 G1)
    | (go_at_call 50; (with_reducible refine (HC.out.2.1 _ _ HT1.out.pu).mono ?_); rintro e w2 ⟨rfl, P2, G2⟩; clear m0 m1 m2 m3 m4 m5 m6 mf; obtain ⟨⟨m0, m1, m2, m3, m4, m5, m6⟩, mf⟩ := row7 (HT1.out.call P2 G2).r1; have e2 : b < w2.heap.size := (Array.getElem?_eq_some_iff.1 (HT1.out.call P2 G2).r1).1; have HT2 := Lib.hid (show Tp w ((w2.setCell ⟨b, 3, none⟩ (.int .u32 (a2 : Int))).setCell ⟨b, 4, none⟩ (.int .u8 (b2 : Int))) q b #[.int .u8 3, .int .u64 0, .int .i64 (n1 : Int), .int .u32 (a2 : Int), .int .u8 (b2 : Int), .int .u16 0, .int .u16 0] l2 f2 from (((HT1.out.call P2 G2).set 3 (.int .u32 (a2 : Int))).set 4 (.int .u8 (b2 : Int)))); clear P2 G2)
    | (go_at_call 49; (with_reducible refine (HC.out.2.2.1 _ _ HT2.out.pu).mono ?_); rintro e w3 ⟨rfl, P3, G3⟩; clear m0 m1 m2 m3 m4 m5 m6 mf; obtain ⟨⟨m0, m1, m2, m3, m4, m5, m6⟩, mf⟩ := row7 (HT2.out.call P3 G3).r1; have e3 : b < w3.heap.size := (Array.getElem?_eq_some_iff.1 (HT2.out.call P3 G3).r1).1; have HT3 := Lib.hid (show Tp w (w3.setCell ⟨b, 5, none⟩ (.int .u16 (n3 : Int))) q b #[.int .u8 3, .int .u64 0, .int .i64 (n1 : Int), .int .u32 (a2 : Int), .int .u8 (b2 : Int), .int .u16 (n3 : Int), .int .u16 0] l3 f3 from ((HT2.out.call P3 G3).set 5 (.int .u16 (n3 : Int)))); clear P3 G3)
    | (go_at_call 49; (with_reducible refine (HC.out.2.2.2 _ _ HT3.out.pu).mono ?_); rintro e w4 ⟨rfl, P4, G4⟩; clear m0 m1 m2 m3 m4 m5 m6 mf; obtain ⟨⟨m0, m1, m2, m3, m4, m5, m6⟩, mf⟩ := row7 (HT3.out.call P4 G4).r1; have e4 : b < w4.heap.size := (Array.getElem?_eq_some_iff.1 (HT3.out.call P4 G4).r1).1; have HT4 := Lib.hid (show Tp w (w4.setCell ⟨b, 6, none⟩ (.int .u16 (n4 : Int))) q b #[.int .u8 3, .int .u64 0, .int .i64 (n1 : Int), .int .u32 (a2 : Int), .int .u8 (b2 : Int), .int .u16 (n3 : Int), .int .u16 (n4 : Int)] l4 f4 from ((HT3.out.call P4 G4).set 6 (.int .u16 (n4 : Int)))); clear P4 G4)
    | (go_at_call 44; (with_reducible refine (HE.out _ _ HT4.out.pu).mono ?_); rintro e wz ⟨rfl, ewz⟩; clear m0 m1 m2 m3 m4 m5 m6 mf; have HTz := Lib.hid (show Tp w wz q b #[.int .u8 3, .int .u64 0, .int .i64 (n1 : Int), .int .u32 (a2 : Int), .int .u8 (b2 : Int), .int .u16 (n3 : Int), .int .u16 (n4 : Int)] l4 f4 from ewz ▸ HT4.out); clear ewz; obtain ⟨⟨m0, m1, m2, m3, m4, m5, m6⟩, mf⟩ := row7 HTz.out.r1)
    | (go_at_call 13; (with_reducible refine (HR.out _).mono ?_); rintro e wy ⟨rfl, By⟩; clear m0 m1 m2 m3 m4 m5 m6 mf; have HTy := Lib.hid (HTz.out.step By); clear By; have r0 := HTy.out.r0; obtain ⟨⟨m0, m1, m2, m3, m4, m5, m6⟩, mf⟩ := row7 HTy.out.r1)
    | (with_reducible refine put28 rfl (.tmp 4) (.tmp 62) rfl w.heap.size rfl r0 rfl ?_; intro wx Ex Gx))
      (try simp only [Exit.inBlock, Exit.then])
      exact bodyPost_ret (res28 rfl _ _ w.heap.size 28 _ (0, 0) rfl Ex rfl) rfl ⟨rfl, HTy.out.bl.grown Gx HTy.out.bl.size (fun k h => by cases h; exact Nat.le_refl _)⟩
  · have hres : po = (Pt.zero, ev) := by rw [HPO.out, if_pos hev]
    subst hres
    have hbe : (((ev : Nat) : Int) == 0) = false := by simp; omega
    have hbn : (((ev : Nat) : Int) != 0) = true := by simp; omega
    go_wp2_with (first
    | (go_at_call 29; (with_reducible refine (HC.out.1 _ _ HT0.out.pu).mono ?_); rintro e w1 ⟨rfl, P1, G1⟩; clear m0 m1 m2 m3 m4 m5 m6 mf; obtain ⟨⟨m0, m1, m2, m3, m4, m5, m6⟩, mf⟩ := row7 (HT0.out.call P1 G1).r1; have e1 : b < w1.heap.size := (Array.getElem?_eq_some_iff.1 (HT0.out.call P1 G1).r1).1; have HT1 := Lib.hid (show Tp w (w1.setCell ⟨b, 2, none⟩ (.int .i64 (n1 : Int))) q b #[.int .u8 3, .int .u64 0, .int .i64 (n1 : Int), .int .u32 0, .int .u8 0, .int .u16 0, .int .u16 0] l1 f1 from ((HT0.out.call P1 G1).set 2 (.int .i64 (n1 : Int)))); clear P1 G1)
    | (go_at_call 50; (with_reducible refine (HC.out.2.1 _ _ HT1.out.pu).mono ?_); rintro e w2 ⟨rfl, P2, G2⟩; clear m0 m1 m2 m3 m4 m5 m6 mf; obtain ⟨⟨m0, m1, m2, m3, m4, m5, m6⟩, mf⟩ := row7 (HT1.out.call P2 G2).r1; have e2 : b < w2.heap.size := (Array.getElem?_eq_some_iff.1 (HT1.out.call P2 G2).r1).1; have HT2 := Lib.hid (show Tp w ((w2.setCell ⟨b, 3, none⟩ (.int .u32 (a2 : Int))).setCell ⟨b, 4, none⟩ (.int .u8 (b2 : Int))) q b #[.int .u8 3, .int .u64 0, .int .i64 (n1 : Int), .int .u32 (a2 : Int), .int .u8 (b2 : Int), .int .u16 0, .int .u16 0] l2 f2 from (((HT1.out.call P2 G2).set 3 (.int .u32 (a2 : Int))).set 4 (.int .u8 (b2 : Int)))); clear P2 G2)
    | (go_at_call 49; (with_reducible refine (HC.out.2.2.1 _ _ HT2.out.pu).mono ?_); rintro e w3 ⟨rfl, P3, G3⟩; clear m0 m1 m2 m3 m4 m5 m6 mf; obtain ⟨⟨m0, m1, m2, m3, m4, m5, m6⟩, mf⟩ := row7 (HT2.out.call P3 G3).r1; have e3 : b < w3.heap.size := (Array.getElem?_eq_some_iff.1 (HT2.out.call P3 G3).r1).1; have HT3 := Lib.hid (show Tp w (w3.setCell ⟨b, 5, none⟩ (.int .u16 (n3 : Int))) q b #[.int .u8 3, .int .u64 0, .int .i64 (n1 : Int), .int .u32 (a2 : Int), .int .u8 (b2 : Int), .int .u16 (n3 : Int), .int .u16 0] l3 f3 from ((HT2.out.call P3 G3).set 5 (.int .u16 (n3 : Int)))); clear P3 G3)
    | (go_at_call 49; (with_reducible refine (HC.out.2.2.2 _ _ HT3.out.pu).mono ?_); rintro e w4 ⟨rfl, P4, G4⟩; clear m0 m1 m2 m3 m4 m5 m6 mf; obtain ⟨⟨m0, m1, m2, m3, m4, m5, m6⟩, mf⟩ := row7 (HT3.out.call P4 G4).r1; have e4 : b < w4.heap.size := (Array.getElem?_eq_some_iff.1 (HT3.out.call P4 G4).r1).1; have HT4 := Lib.hid (show Tp w (w4.setCell ⟨b, 6, none⟩ (.int .u16 (n4 : Int))) q b #[.int .u8 3, .int .u64 0, .int .i64 (n1 : Int), .int .u32 (a2 : Int), .int .u8 (b2 : Int), .int .u16 (n3 : Int), .int .u16 (n4 : Int)] l4 f4 from ((HT3.out.call P4 G4).set 6 (.int .u16 (n4 : Int)))); clear P4 G4)
    | (go_at_call 44; (with_reducible refine (HE.out _ _ HT4.out.pu).mono ?_); rintro e wz ⟨rfl, ewz⟩; clear m0 m1 m2 m3 m4 m5 m6 mf; have HTz := Lib.hid (show Tp w wz q b #[.int .u8 3, .int .u64 0, .int .i64 (n1 : Int), .int .u32 (a2 : Int), .int .u8 (b2 : Int), .int .u16 (n3 : Int), .int .u16 (n4 : Int)] l4 f4 from ewz ▸ HT4.out); clear ewz; have r0 := HTz.out.r0)
    | (with_reducible refine put28 rfl (.tmp 4) (.tmp 56) rfl w.heap.size rfl r0 rfl ?_; intro wx Ex Gx))
    (try simp only [Exit.inBlock, Exit.then])
    exact bodyPost_ret (res28 rfl _ _ w.heap.size 28 _ (0, 0) rfl Ex rfl) rfl ⟨rfl, HTz.out.bl.grown Gx HTz.out.bl.size (fun k h => by cases h; exact Nat.le_refl _)⟩
set_option maxHeartbeats 1000000 in
theorem part4 (w : World) (A : Option Addr) (m cap : Nat) (own : List UInt8) (hm : m = own.length) (hl : m ≤ 100000) (hr : Rd w w.heap.size A own) (l1 : List UInt8) (f1 : Nat) (a1 b1 : Nat) (l2 : List UInt8) (f2 : Nat) (n2 : Nat) (l3 : List UInt8) (f3 : Nat) (n3 : Nat) (C1 : ∀ q W, Pur W q own 0 → Calls Try.prog 50 #[.pointer (some ⟨q, 0, none⟩)] W fun e w' => e = .returned (.agg #[.int .u32 (a1 : Int), .int .u8 (b1 : Int)]) ∧ Pur w' q l1 f1 ∧ W.grownBy w' (some q)) (C2 : ∀ q, TkC 49 #[.pointer (some ⟨q, 0, none⟩)] .u16 q l1 f1 n2 l2 f2) (C3 : ∀ q, TkC 38 #[.pointer (some ⟨q, 0, none⟩), .int .u64 64] .u64 q l2 f2 n3 l3 f3) (hx : Pt.Fits ⟨4, n3, 0, a1, b1, n2, 0⟩) (hf : f3 ≤ 12) :
    Calls Try.prog 43 #[.int .u8 4, .slice A m cap] w (PoSaid w (poR ⟨4, n3, 0, a1, b1, n2, 0⟩ l3 f3)) := by
  have B0 : Below w.heap.size w (w.alloc (.cells #[.int .u8 0, .int .u64 0, .int .i64 0, .int .u32 0, .int .u8 0, .int .u16 0, .int .u16 0] 28)) := (Below.refl _ _).alloc (Nat.le_refl _) _
  have R0 := heap_alloc_new w (.cells #[.int .u8 0, .int .u64 0, .int .i64 0, .int .u32 0, .int .u8 0, .int .u16 0, .int .u16 0] 28)
  have hnew := Coin.new_any A cap own (w.alloc (.cells #[.int .u8 0, .int .u64 0, .int .i64 0, .int .u32 0, .int .u8 0, .int .u16 0, .int .u16 0] 28)) (by omega) ((hr.below B0 (Nat.le_refl _)).more (by simp))
  rw [← hm] at hnew
  have HN := Lib.hid (And.intro hnew (And.intro B0 R0))
  have HC := Lib.hid ((And.intro C1 (And.intro C2 C3)))
  have hrt := fun W => right_any ⟨4, n3, 0, a1, b1, n2, 0⟩ hx W
  have hrt : ∀ W, Calls Try.prog 13 #[.agg #[.int .u8 4, .int .u64 (n3 : Int), .int .i64 0, .int .u32 (a1 : Int), .int .u8 (b1 : Int), .int .u16 (n2 : Int), .int .u16 0]] W fun e w' => e = .returned (.bool (Pt.rt ⟨4, n3, 0, a1, b1, n2, 0⟩)) ∧ Below W.heap.size W w' := hrt
  have HR := Lib.hid hrt
  have hend := fun q W (h : Pur W q l3 f3) => Coin.end_any W q l3 f3 h
  have hpo : poR ⟨4, n3, 0, a1, b1, n2, 0⟩ l3 f3 = if endV l3 f3 ≠ 0 then (Pt.zero, endV l3 f3) else if Pt.rt ⟨4, n3, 0, a1, b1, n2, 0⟩ then (⟨4, n3, 0, a1, b1, n2, 0⟩, 0) else (Pt.zero, 4) := rfl
  have hle : endV l3 f3 ≤ 12 := by unfold endV; split <;> omega
  generalize Pt.rt ⟨4, n3, 0, a1, b1, n2, 0⟩ = rt at *
  generalize endV l3 f3 = ev at *
  have HE := Lib.hid hend
  have HPO := Lib.hid hpo
  clear hnew B0 R0 C1 C2 C3 hrt hend hr hm hx
  generalize poR _ l3 f3 = po at *
  clear hpo
  go_enter Try.func43, Try.ntmps43
  go_upto_region 3 with (go_at_call 28; (with_reducible refine HN.out.1.mono ?_); rintro e wn ⟨q, rfl, Pn, hq1, hq2, Bn⟩; have HM := Lib.hid (And.intro Pn (And.intro Bn (And.intro hq1 hq2))); clear Pn Bn hq1 hq2)
  have HT0 := Lib.hid (Tp.new (k := 4) HN.out.2.1 HN.out.2.2 HM.out.1 HM.out.2.1 HM.out.2.2.1 HM.out.2.2.2)
  clear HN HM
  generalize wn.alloc _ = w0 at *
  generalize wn.heap.size = b at *
  obtain ⟨⟨m0, m1, m2, m3, m4, m5, m6⟩, mf⟩ := row7 HT0.out.r1
  have e0 : b < w0.heap.size := (Array.getElem?_eq_some_iff.1 HT0.out.r1).1
  by_cases hev : ev = 0
  · subst hev
    cases rt
    · have hres : po = (Pt.zero, 4) := by rw [HPO.out]; rfl
      subst hres
      go_wp2_with (first
    | (go_at_call 50; (with_reducible refine (HC.out.1 _ _ HT0.out.pu).mono ?_); rintro e w1 ⟨rfl, P1, G1⟩; clear m0 m1 m2 m3 m4 m5 m6 mf; obtain ⟨⟨m0, m1, m2, m3, m4, m5, m6⟩, mf⟩ := row7 (HT0.out.call P1 G1).r1; have e1 : b < w1.heap.size := (Array.getElem?_eq_some_iff.1 (HT0.out.call P1 G1).r1).1; have HT1 := Lib.hid (show Tp w ((w1.setCell ⟨b, 3, none⟩ (.int .u32 (a1 : Int))).setCell ⟨b, 4, none⟩ (.int .u8 (b1 : Int))) q b #[.int .u8 4, .int .u64 0, .int .i64 0, .int .u32 (a1 : Int), .int .u8 (b1 : Int), .int .u16 0, .int .u16 0] l1 f1 from (((HT0.out.call P1 G1).set 3 (.int .u32 (a1 : Int))).set 4 (.int .u8 (b1 : Int)))); clear P1 G1)
    | (go_at_call 49; (with_reducible refine (HC.out.2.1 _ _ HT1.out.pu).mono ?_); rintro e w2 ⟨rfl, P2, G2⟩; clear m0 m1 m2 m3 m4 m5 m6 mf; obtain ⟨⟨m0, m1, m2, m3, m4, m5, m6⟩, mf⟩ := row7 (HT1.out.call P2 G2).r1; have e2 : b < w2.heap.size := (Array.getElem?_eq_some_iff.1 (HT1.out.call P2 G2).r1).1; have HT2 := Lib.hid (show Tp w (w2.setCell ⟨b, 5, none⟩ (.int .u16 (n2 : Int))) q b #[.int .u8 4, .int .u64 0, .int .i64 0, .int .u32 (a1 : Int), .int .u8 (b1 : Int), .int .u16 (n2 : Int), .int .u16 0] l2 f2 from ((HT1.out.call P2 G2).set 5 (.int .u16 (n2 : Int)))); clear P2 G2)
    | (go_at_call 38; (with_reducible refine (HC.out.2.2 _ _ HT2.out.pu).mono ?_); rintro e w3 ⟨rfl, P3, G3⟩; clear m0 m1 m2 m3 m4 m5 m6 mf; obtain ⟨⟨m0, m1, m2, m3, m4, m5, m6⟩, mf⟩ := row7 (HT2.out.call P3 G3).r1; have e3 : b < w3.heap.size := (Array.getElem?_eq_some_iff.1 (HT2.out.call P3 G3).r1).1; have HT3 := Lib.hid (show Tp w (w3.setCell ⟨b, 1, none⟩ (.int .u64 (n3 : Int))) q b #[.int .u8 4, .int .u64 (n3 : Int), .int .i64 0, .int .u32 (a1 : Int), .int .u8 (b1 : Int), .int .u16 (n2 : Int), .int .u16 0] l3 f3 from ((HT2.out.call P3 G3).set 1 (.int .u64 (n3 : Int)))); clear P3 G3)
    | (go_at_call 44; (with_reducible refine (HE.out _ _ HT3.out.pu).mono ?_); rintro e wz ⟨rfl, ewz⟩; clear m0 m1 m2 m3 m4 m5 m6 mf; have HTz := Lib.hid (show Tp w wz q b #[.int .u8 4, .int .u64 (n3 : Int), .int .i64 0, .int .u32 (a1 : Int), .int .u8 (b1 : Int), .int .u16 (n2 : Int), .int .u16 0] l3 f3 from ewz ▸ HT3.out); clear ewz; obtain ⟨⟨m0, m1, m2, m3, m4, m5, m6⟩, mf⟩ := row7 HTz.out.r1)
    | (go_at_call 13; (with_reducible refine (HR.out _).mono ?_); rintro e wy ⟨rfl, By⟩; have HTy := Lib.hid (HTz.out.step By); clear By; have r0 := HTy.out.r0)
    | (with_reducible refine put28 rfl (.tmp 4) (.tmp 61) rfl w.heap.size rfl r0 rfl ?_; intro wx Ex Gx))
      (try simp only [Exit.inBlock, Exit.then])
      exact bodyPost_ret (res28 rfl _ _ w.heap.size 28 _ (0, 0) rfl Ex rfl) rfl ⟨rfl, HTy.out.bl.grown Gx HTy.out.bl.size (fun k h => by cases h; exact Nat.le_refl _)⟩
    · have hres : po = (⟨4, n3, 0, a1, b1, n2, 0⟩, 0) := by rw [HPO.out]; rfl
      subst hres
      go_wp2_with (first
    | (go_at_call 50; (with_reducible refine (HC.out.1 _ _ HT0.out.pu).mono ?_); rintro e w1 ⟨rfl, P1, G1⟩; clear m0 m1 m2 m3 m4 m5 m6 mf; obtain ⟨⟨m0, m1, m2, m3, m4, m5, m6⟩, mf⟩ := row7 (HT0.out.call P1 G1).r1; have e1 : b < w1.heap.size := (Array.getElem?_eq_some_iff.1 (HT0.out.call P1 G1).r1).1; have HT1 := Lib.hid (show Tp w ((w1.setCell ⟨b, 3, none⟩ (.int .u32 (a1 : Int))).setCell ⟨b, 4, none⟩ (.int .u8 (b1 : Int))) q b #[.int .u8 4, .int .u64 0, .int .i64 0, .int .u32 (a1 : Int), .int .u8 (b1 : Int), .int .u16 0, .int .u16 0] l1 f1 from (((HT0.out.call P1 G1).set 3 (.int .u32 (a1 : Int))).set 4 (.int .u8 (b1 : Int)))); clear P1 G1)
    | (go_at_call 49; (with_reducible refine (HC.out.2.1 _ _ HT1.out.pu).mono ?_); rintro e w2 ⟨rfl, P2, G2⟩; clear m0 m1 m2 m3 m4 m5 m6 mf; obtain ⟨⟨m0, m1, m2, m3, m4, m5, m6⟩, mf⟩ := row7 (HT1.out.call P2 G2).r1; have e2 : b < w2.heap.size := (Array.getElem?_eq_some_iff.1 (HT1.out.call P2 G2).r1).1; have HT2 := Lib.hid (show Tp w (w2.setCell ⟨b, 5, none⟩ (.int .u16 (n2 : Int))) q b #[.int .u8 4, .int .u64 0, .int .i64 0, .int .u32 (a1 : Int), .int .u8 (b1 : Int), .int .u16 (n2 : Int), .int .u16 0] l2 f2 from ((HT1.out.call P2 G2).set 5 (.int .u16 (n2 : Int)))); clear P2 G2)
    | (go_at_call 38; (with_reducible refine (HC.out.2.2 _ _ HT2.out.pu).mono ?_); rintro e w3 ⟨rfl, P3, G3⟩; clear m0 m1 m2 m3 m4 m5 m6 mf; obtain ⟨⟨m0, m1, m2, m3, m4, m5, m6⟩, mf⟩ := row7 (HT2.out.call P3 G3).r1; have e3 : b < w3.heap.size := (Array.getElem?_eq_some_iff.1 (HT2.out.call P3 G3).r1).1; have HT3 := Lib.hid (show Tp w (w3.setCell ⟨b, 1, none⟩ (.int .u64 (n3 : Int))) q b #[.int .u8 4, .int .u64 (n3 : Int), .int .i64 0, .int .u32 (a1 : Int), .int .u8 (b1 : Int), .int .u16 (n2 : Int), .int .u16 0] l3 f3 from ((HT2.out.call P3 G3).set 1 (.int .u64 (n3 : Int)))); clear P3 G3)
    | (go_at_call 44; (with_reducible refine (HE.out _ _ HT3.out.pu).mono ?_); rintro e wz ⟨rfl, ewz⟩; clear m0 m1 m2 m3 m4 m5 m6 mf; have HTz := Lib.hid (show Tp w wz q b #[.int .u8 4, .int .u64 (n3 : Int), .int .i64 0, .int .u32 (a1 : Int), .int .u8 (b1 : Int), .int .u16 (n2 : Int), .int .u16 0] l3 f3 from ewz ▸ HT3.out); clear ewz; obtain ⟨⟨m0, m1, m2, m3, m4, m5, m6⟩, mf⟩ := row7 HTz.out.r1)
    | (go_at_call 13; (with_reducible refine (HR.out _).mono ?_); rintro e wy ⟨rfl, By⟩; clear m0 m1 m2 m3 m4 m5 m6 mf; have HTy := Lib.hid (HTz.out.step By); clear By; have r0 := HTy.out.r0; obtain ⟨⟨m0, m1, m2, m3, m4, m5, m6⟩, mf⟩ := row7 HTy.out.r1)
    | (with_reducible refine put28 rfl (.tmp 4) (.tmp 62) rfl w.heap.size rfl r0 rfl ?_; intro wx Ex Gx))
      (try simp only [Exit.inBlock, Exit.then])
      exact bodyPost_ret (res28 rfl _ _ w.heap.size 28 _ (0, 0) rfl Ex rfl) rfl ⟨rfl, HTy.out.bl.grown Gx HTy.out.bl.size (fun k h => by cases h; exact Nat.le_refl _)⟩
  · have hres : po = (Pt.zero, ev) := by rw [HPO.out, if_pos hev]
    subst hres
    have hbe : (((ev : Nat) : Int) == 0) = false := by simp; omega
    have hbn : (((ev : Nat) : Int) != 0) = true := by simp; omega
    go_wp2_with (first
    | (go_at_call 50; (with_reducible refine (HC.out.1 _ _ HT0.out.pu).mono ?_); rintro e w1 ⟨rfl, P1, G1⟩; clear m0 m1 m2 m3 m4 m5 m6 mf; obtain ⟨⟨m0, m1, m2, m3, m4, m5, m6⟩, mf⟩ := row7 (HT0.out.call P1 G1).r1; have e1 : b < w1.heap.size := (Array.getElem?_eq_some_iff.1 (HT0.out.call P1 G1).r1).1; have HT1 := Lib.hid (show Tp w ((w1.setCell ⟨b, 3, none⟩ (.int .u32 (a1 : Int))).setCell ⟨b, 4, none⟩ (.int .u8 (b1 : Int))) q b #[.int .u8 4, .int .u64 0, .int .i64 0, .int .u32 (a1 : Int), .int .u8 (b1 : Int), .int .u16 0, .int .u16 0] l1 f1 from (((HT0.out.call P1 G1).set 3 (.int .u32 (a1 : Int))).set 4 (.int .u8 (b1 : Int)))); clear P1 G1)
    | (go_at_call 49; (with_reducible refine (HC.out.2.1 _ _ HT1.out.pu).mono ?_); rintro e w2 ⟨rfl, P2, G2⟩; clear m0 m1 m2 m3 m4 m5 m6 mf; obtain ⟨⟨m0, m1, m2, m3, m4, m5, m6⟩, mf⟩ := row7 (HT1.out.call P2 G2).r1; have e2 : b < w2.heap.size := (Array.getElem?_eq_some_iff.1 (HT1.out.call P2 G2).r1).1; have HT2 := Lib.hid (show Tp w (w2.setCell ⟨b, 5, none⟩ (.int .u16 (n2 : Int))) q b #[.int .u8 4, .int .u64 0, .int .i64 0, .int .u32 (a1 : Int), .int .u8 (b1 : Int), .int .u16 (n2 : Int), .int .u16 0] l2 f2 from ((HT1.out.call P2 G2).set 5 (.int .u16 (n2 : Int)))); clear P2 G2)
    | (go_at_call 38; (with_reducible refine (HC.out.2.2 _ _ HT2.out.pu).mono ?_); rintro e w3 ⟨rfl, P3, G3⟩; clear m0 m1 m2 m3 m4 m5 m6 mf; obtain ⟨⟨m0, m1, m2, m3, m4, m5, m6⟩, mf⟩ := row7 (HT2.out.call P3 G3).r1; have e3 : b < w3.heap.size := (Array.getElem?_eq_some_iff.1 (HT2.out.call P3 G3).r1).1; have HT3 := Lib.hid (show Tp w (w3.setCell ⟨b, 1, none⟩ (.int .u64 (n3 : Int))) q b #[.int .u8 4, .int .u64 (n3 : Int), .int .i64 0, .int .u32 (a1 : Int), .int .u8 (b1 : Int), .int .u16 (n2 : Int), .int .u16 0] l3 f3 from ((HT2.out.call P3 G3).set 1 (.int .u64 (n3 : Int)))); clear P3 G3)
    | (go_at_call 44; (with_reducible refine (HE.out _ _ HT3.out.pu).mono ?_); rintro e wz ⟨rfl, ewz⟩; clear m0 m1 m2 m3 m4 m5 m6 mf; have HTz := Lib.hid (show Tp w wz q b #[.int .u8 4, .int .u64 (n3 : Int), .int .i64 0, .int .u32 (a1 : Int), .int .u8 (b1 : Int), .int .u16 (n2 : Int), .int .u16 0] l3 f3 from ewz ▸ HT3.out); clear ewz; have r0 := HTz.out.r0)
    | (with_reducible refine put28 rfl (.tmp 4) (.tmp 56) rfl w.heap.size rfl r0 rfl ?_; intro wx Ex Gx))
    (try simp only [Exit.inBlock, Exit.then])
    exact bodyPost_ret (res28 rfl _ _ w.heap.size 28 _ (0, 0) rfl Ex rfl) rfl ⟨rfl, HTz.out.bl.grown Gx HTz.out.bl.size (fun k h => by cases h; exact Nat.le_refl _)⟩
end Go.Proofs.Ytecfblkagbdjlaa.Msg
