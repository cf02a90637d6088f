/- Contract: the document's Row: what a prefix has behind some changes. -/
import Derived.Test.YtldaggcopbnehaaKm
namespace Go.Proofs.Ytldaggcopbnehaa.Tab
open Pre Ser Chg
open Go.ChangeShapes Go.WideShapes Go.ChangeAt Go.RowKit
set_option maxRecDepth 8000

/-- What Row has in hand. -/
structure S where
  seen : Bool
  r : R
  ok : Bool
def S.zero (a k : Nat) : S := ⟨false, ⟨a, k, false, 0, 0, 0, 0, 0⟩, false⟩
def S.step (s : S) (c : C) : S :=
  let r1 : R := { s.r with has := !c.gone, via := c.via, metric := c.metric, seq := c.seq }
  if c.gone then ⟨true, r1, s.ok⟩ else if !s.ok || near c.seq c.metric s.r.ms s.r.mm then ⟨true, { r1 with ms := c.seq, mm := c.metric }, true⟩ else ⟨true, r1, true⟩
def S.go (a k : Nat) (s : S) (c : C) : S := if c.addr = a ∧ c.len = k then s.step c else s
def rowOf (cs : List C) (a k : Nat) : S := cs.foldl (S.go a k) (S.zero a k)
def S.cl (s : S) : Array Value := #[.int .u32 (s.r.addr : Int), .int .u8 (s.r.len : Int), .bool s.r.has, .int .u32 (if s.seen then (s.r.addr : Int) else 0), .int .u8 (if s.seen then (s.r.len : Int) else 0), .int .i64 (s.r.via : Int), .int .u16 (s.r.metric : Int), .int .u16 (s.r.seq : Int), .int .u16 (s.r.ms : Int), .int .u16 (s.r.mm : Int)]
theorem rowOf_snoc (cs : List C) (c : C) (a k : Nat) : rowOf (cs ++ [c]) a k = (rowOf cs a k).go a k c := by simp [rowOf]
structure S.Fit (s : S) (a k : Nat) : Prop where
  addr : s.r.addr = a
  len : s.r.len = k
  ms : s.r.ms < 65536
  seen : s.ok = true → s.seen = true
theorem S.Fit.zero (a k : Nat) : (S.zero a k).Fit a k := ⟨rfl, rfl, (by show (0 : Nat) < 65536; decide), fun h => (by cases h)⟩
theorem S.Fit.go {s : S} {a k : Nat} (h : s.Fit a k) {c : C} (hc : c.seq < 65536) : (s.go a k c).Fit a k := by
  unfold S.go S.step
  split
  · split
    · exact ⟨h.addr, h.len, h.ms, fun _ => rfl⟩
    · split
      · exact ⟨h.addr, h.len, hc, fun _ => rfl⟩
      · exact ⟨h.addr, h.len, h.ms, fun _ => rfl⟩
  · exact h
theorem rowOf_fit (a k : Nat) (cs : List C) (h : ∀ c ∈ cs, c.seq < 65536) : (rowOf cs a k).Fit a k := by
  suffices ∀ (cs : List C) (s : S), s.Fit a k → (∀ c ∈ cs, c.seq < 65536) → (cs.foldl (S.go a k) s).Fit a k from this cs _ (S.Fit.zero a k) h
  intro cs
  induction cs with
  | nil => intro s hs _; exact hs
  | cons c cs ih => intro s hs h; exact ih _ (hs.go (h c List.mem_cons_self)) (fun c hc => h c (List.mem_cons_of_mem _ hc))
/-- What stands between two rounds. -/
structure Rz (w wr : World) (a k : Nat) (x : Array Value) : Prop where
  bl : Below w.heap.size w wr
  r0 : wr.heap[w.heap.size]? = some (.cells #[.int .u32 (a : Int), .int .u8 (k : Int)] 34 (0, 0))
  r1 : wr.heap[w.heap.size + 1]? = some (.cells #[.int .u32 0, .int .u8 0, .bool false, .int .u32 0, .int .u8 0, .int .i64 0, .int .u16 0, .int .u16 0, .int .u16 0, .int .u16 0] 60 (0, 0))
  r2 : wr.heap[w.heap.size + 1 + 1]? = some (.cells x 60 (0, 0))
theorem Rz.step {w wr w' : World} {a k : Nat} {x : Array Value} (h : Rz w wr a k x) (B : Below wr.heap.size wr w') : Rz w w' a k x :=
  ⟨h.bl.trans (B.mono h.bl.size), (B.block _ (Array.getElem?_eq_some_iff.1 h.r0).1).trans h.r0, (B.block _ (Array.getElem?_eq_some_iff.1 h.r1).1).trans h.r1, (B.block _ (Array.getElem?_eq_some_iff.1 h.r2).1).trans h.r2⟩
theorem Rz.alloc {w wr : World} {a k : Nat} {x : Array Value} (h : Rz w wr a k x) (o : Obj) : Rz w (wr.alloc o) a k x := h.step ((Below.refl _ _).alloc (Nat.le_refl _) o)
theorem Rz.set {w wr : World} {a k : Nat} {x : Array Value} (h : Rz w wr a k x) (i : Nat) (v : Value) : Rz w (wr.setCell ⟨w.heap.size + 1 + 1, i, none⟩ v) a k (x.setIfInBounds i v) :=
  ⟨h.bl.setCell (p := ⟨w.heap.size + 1 + 1, i, none⟩) (by show w.heap.size ≤ w.heap.size + 1 + 1; omega) v, (Below.heap_setCell wr ⟨w.heap.size + 1 + 1, i, none⟩ v w.heap.size (by show w.heap.size ≠ w.heap.size + 1 + 1; omega)).trans h.r0, (Below.heap_setCell wr ⟨w.heap.size + 1 + 1, i, none⟩ v (w.heap.size + 1) (by show w.heap.size + 1 ≠ w.heap.size + 1 + 1; omega)).trans h.r1, heap_setCell_same wr (w.heap.size + 1 + 1) i _ 60 v h.r2⟩
theorem Rz.congr {w wr : World} {a k : Nat} {x y : Array Value} (h : Rz w wr a k y) (e : y = x) : Rz w wr a k x := e ▸ h
theorem Rz.sets6 {w wr : World} {a k : Nat} {x0 x1 x2 x3 x4 x5 x6 x7 x8 x9 : Value} (h : Rz w wr a k #[x0, x1, x2, x3, x4, x5, x6, x7, x8, x9]) (y2 y3 y4 y5 y6 y7 : Value) :
    Rz w ((((((wr.setCell ⟨w.heap.size + 1 + 1, 2, none⟩ y2).setCell ⟨w.heap.size + 1 + 1, 3, none⟩ y3).setCell ⟨w.heap.size + 1 + 1, 4, none⟩ y4).setCell ⟨w.heap.size + 1 + 1, 5, none⟩ y5).setCell ⟨w.heap.size + 1 + 1, 6, none⟩ y6).setCell ⟨w.heap.size + 1 + 1, 7, none⟩ y7) a k #[x0, x1, y2, y3, y4, y5, y6, y7, x8, x9] := by
  have := (((((h.set 2 y2).set 3 y3).set 4 y4).set 5 y5).set 6 y6).set 7 y7
  simpa using this
theorem Rz.sets2 {w wr : World} {a k : Nat} {x0 x1 x2 x3 x4 x5 x6 x7 x8 x9 : Value} (h : Rz w wr a k #[x0, x1, x2, x3, x4, x5, x6, x7, x8, x9]) (y8 y9 : Value) :
    Rz w ((wr.setCell ⟨w.heap.size + 1 + 1, 8, none⟩ y8).setCell ⟨w.heap.size + 1 + 1, 9, none⟩ y9) a k #[x0, x1, x2, x3, x4, x5, x6, x7, y8, y9] := by
  have := (h.set 8 y8).set 9 y9
  simpa using this
theorem Rz.new (w : World) (a k : Nat) (x : Array Value) : Rz w (((w.alloc (.cells #[.int .u32 (a : Int), .int .u8 (k : Int)] 34)).alloc (.cells #[.int .u32 0, .int .u8 0, .bool false, .int .u32 0, .int .u8 0, .int .i64 0, .int .u16 0, .int .u16 0, .int .u16 0, .int .u16 0] 60)).alloc (.cells x 60)) a k x := by
  have s1 : (w.alloc (.cells #[.int .u32 (a : Int), .int .u8 (k : Int)] 34)).heap.size = w.heap.size + 1 := by simp
  have s2 : ((w.alloc (.cells #[.int .u32 (a : Int), .int .u8 (k : Int)] 34)).alloc (.cells #[.int .u32 0, .int .u8 0, .bool false, .int .u32 0, .int .u8 0, .int .i64 0, .int .u16 0, .int .u16 0, .int .u16 0, .int .u16 0] 60)).heap.size = w.heap.size + 1 + 1 := by simp
  refine ⟨(((Below.refl _ _).alloc (Nat.le_refl _) _).alloc (by simp) _).alloc (by simp; omega) _, ?_, ?_, ?_⟩
  · rw [heap_alloc_old _ _ (by rw [s2]; omega), heap_alloc_old _ _ (by rw [s1]; omega)]; exact heap_alloc_new w _
  · rw [heap_alloc_old _ _ (by rw [s2]; omega)]
    have := heap_alloc_new (w.alloc (.cells #[.int .u32 (a : Int), .int .u8 (k : Int)] 34)) (.cells #[.int .u32 0, .int .u8 0, .bool false, .int .u32 0, .int .u8 0, .int .i64 0, .int .u16 0, .int .u16 0, .int .u16 0, .int .u16 0] 60)
    rw [s1] at this; exact this
  · have := heap_alloc_new ((w.alloc (.cells #[.int .u32 (a : Int), .int .u8 (k : Int)] 34)).alloc (.cells #[.int .u32 0, .int .u8 0, .bool false, .int .u32 0, .int .u8 0, .int .i64 0, .int .u16 0, .int .u16 0, .int .u16 0, .int .u16 0] 60)) (.cells x 60)
    rw [s2] at this; exact this
set_option maxHeartbeats 1000000 in
theorem row_exact (w : World) (A : Option Addr) (n cp : Nat) (cs : List C) (hn : n = cs.length) (h60 : n ≤ 60) (hc : ChSl w A cs) (hok : ∀ c ∈ cs, c.metric < 65535 ∧ c.seq < 65536) (a k : Nat) :
    Calls Try.prog 29 #[.slice A n cp, .agg #[.int .u32 (a : Int), .int .u8 (k : Int)]] w fun e w' => e = .returned (.tuple #[.agg (rowOf cs a k).cl, .bool (rowOf cs a k).ok]) ∧ Below w.heap.size w w' := by
  have HN := Lib.hid hn
  have HC := Lib.hid hc
  have HO := Lib.hid hok
  have R0 := Rz.new w a k (S.zero a k).cl
  clear hn hc hok
  simp only [S.cl, S.zero, Bool.false_eq_true, if_false] at R0
  obtain ⟨F, hF⟩ : ∃ F, F = rowOf cs a k := ⟨_, rfl⟩
  rw [← hF]
  have HF := Lib.hid hF
  clear hF
  go_enter Try.func29, Try.ntmps29
  go_wp2
  generalize ((w.alloc _).alloc _).alloc _ = w1 at *
  go_loopw [7, 8] (fun b i wr => ∃ j : Nat, j ≤ n ∧ i = .int .i64 j ∧ ∃ s : S, b = .bool s.ok ∧ Hid (s = rowOf (cs.take j) a k ∧ s.Fit a k) ∧ Rz w wr a k s.cl) (fun _ i _ => n - (intOf i).toNat)
  case atStart => exact ⟨0, by omega, rfl, S.zero a k, rfl, ⟨rfl, S.Fit.zero a k⟩, R0⟩
  case round =>
    obtain ⟨j, hj, rfl, s, rfl, HS, RR⟩ := hrel
    clear R0
    by_cases hlt : j < n
    · obtain ⟨bb, oo, ea, hb, hca⟩ := (HC.out.below RR.bl) j (by rw [← HN.out]; exact hlt)
      subst ea
      have hjl : j < cs.length := by rw [← HN.out]; exact hlt
      have hcc := HO.out _ (List.getElem_mem hjl)
      have hnx : rowOf (cs.take (j + 1)) a k = s.go a k cs[j] := by rw [List.take_succ_eq_append_getElem hjl, rowOf_snoc, ← HS.out.1]
      have hfx := HS.out.2.go (c := cs[j]) hcc.2
      obtain ⟨g0, g1, g2, g3, g4, g5, g6, g7⟩ := hca
      generalize cs[j]'_ = c at *
      obtain ⟨no, time, g, ca, cn, via, mt, sq⟩ := c
      obtain ⟨hm, hs⟩ := hcc
      replace hm : mt < 65535 := hm
      replace hs : sq < 65536 := hs
      simp only at g0 g1 g2 g3 g4 g5 g6 g7
      have HX := Lib.hid (And.intro hnx hfx)
      clear hnx hfx
      obtain ⟨ha, hk, hms, hsn⟩ := HS.out.2
      obtain ⟨seen, ⟨ra, rk, h, v1, m1, s1, q1, q2⟩, ok⟩ := s
      simp only at ha hk hms
      subst ha hk
      have HR0 := Lib.hid RR
      simp only [S.cl] at RR
      clear hsn
      obtain ⟨x3, hx3⟩ : ∃ x : Int, x = (if seen = true then (ra : Int) else 0) := ⟨_, rfl⟩
      obtain ⟨x4, hx4⟩ : ∃ x : Int, x = (if seen = true then (rk : Int) else 0) := ⟨_, rfl⟩
      rw [← hx3, ← hx4] at RR
      clear hx3 hx4
      obtain ⟨t0, t1⟩ := row2 RR.r0
      obtain ⟨⟨p0, p1, p2, p3, p4, p5, p6, p7, p8, p9⟩, fz⟩ := row10 RR.r2
      have y0 : w.heap.size < wr.heap.size := (Array.getElem?_eq_some_iff.1 RR.r0).1
      have y1 : w.heap.size + 1 < wr.heap.size := (Array.getElem?_eq_some_iff.1 RR.r1).1
      have y2 : w.heap.size + 1 + 1 < wr.heap.size := (Array.getElem?_eq_some_iff.1 RR.r2).1
      have R := Lib.hid RR
      clear RR
      by_cases he : ca = ra ∧ cn = rk
      · obtain ⟨e1, e2⟩ := he
        subst e1 e2
        cases g
        · cases ok
          · go_wp2
            go_roundw
            case rel =>
              refine ⟨j + 1, by omega, by go_num, ⟨true, ⟨ca, cn, true, via, mt, sq, sq, mt⟩, true⟩, rfl, ⟨by rw [HX.out.1]; simp [S.go, S.step], ⟨rfl, rfl, hs, fun _ => rfl⟩⟩, ?_⟩
              show Rz w _ ca cn #[.int .u32 (ca : Int), .int .u8 (cn : Int), .bool true, .int .u32 (ca : Int), .int .u8 (cn : Int), .int .i64 (via : Int), .int .u16 (mt : Int), .int .u16 (sq : Int), .int .u16 (sq : Int), .int .u16 (mt : Int)]
              (repeat (with_reducible refine Rz.alloc ?_ _))
              exact (R.out.sets6 _ _ _ _ _ _).sets2 _ _
            case measure => simp [intOf]; omega
          · have hq : (0 : Int) ≤ (q1 : Int) ∧ (q1 : Int) ≤ 65535 := by omega
            cases hnr : near sq mt q1 q2
            · replace hnr : nearer (sq : Int) (mt : Int) (q1 : Int) (q2 : Int) = _ := hnr
              go_wp2_with (first
                | (go_at_call 16; (with_reducible refine (rnearer_eq (sq : Int) (mt : Int) (q1 : Int) (q2 : Int) (by omega) hq hnr _).mono ?_); rintro e w5 ⟨rfl, B5⟩; have RX : Rz w w5 ca cn #[.int .u32 (ca : Int), .int .u8 (cn : Int), .bool true, .int .u32 (ca : Int), .int .u8 (cn : Int), .int .i64 (via : Int), .int .u16 (mt : Int), .int .u16 (sq : Int), .int .u16 (q1 : Int), .int .u16 (q2 : Int)] := (Rz.step (by (repeat (with_reducible refine Rz.alloc ?_ _)); exact R.out.sets6 _ _ _ _ _ _) B5); have z0 : w5.cell? ⟨wr.heap.size + 1, 0, none⟩ = some (.int .u16 sq) := (by rw [B5.cell (p := ⟨wr.heap.size + 1, 0, none⟩) (by simp)]; simp [go_sem]); have z1 : w5.cell? ⟨wr.heap.size + 1, 1, none⟩ = some (.int .u16 mt) := (by rw [B5.cell (p := ⟨wr.heap.size + 1, 1, none⟩) (by simp)]; simp [go_sem]); clear p0 p1 p2 p3 p4 p5 p6 p7 p8 p9 fz t0 t1 B5; obtain ⟨⟨p0, p1, p2, p3, p4, p5, p6, p7, p8, p9⟩, fz⟩ := row10 RX.r2; have HRX := Lib.hid RX; clear RX))
              go_roundw
              case rel =>
                refine ⟨j + 1, by omega, by go_num, ⟨true, ⟨ca, cn, true, via, mt, sq, q1, q2⟩, true⟩, rfl, ⟨by rw [HX.out.1]; simp [S.go, S.step, near, hnr], ⟨rfl, rfl, hms, fun _ => rfl⟩⟩, ?_⟩
                show Rz w _ ca cn #[.int .u32 (ca : Int), .int .u8 (cn : Int), .bool true, .int .u32 (ca : Int), .int .u8 (cn : Int), .int .i64 (via : Int), .int .u16 (mt : Int), .int .u16 (sq : Int), .int .u16 (q1 : Int), .int .u16 (q2 : Int)]
                (repeat (with_reducible refine Rz.alloc ?_ _))
                exact HRX.out
              case measure => simp [intOf]; omega
            · replace hnr : nearer (sq : Int) (mt : Int) (q1 : Int) (q2 : Int) = _ := hnr
              go_wp2_with (first
                | (go_at_call 16; (with_reducible refine (rnearer_eq (sq : Int) (mt : Int) (q1 : Int) (q2 : Int) (by omega) hq hnr _).mono ?_); rintro e w5 ⟨rfl, B5⟩; have RX : Rz w w5 ca cn #[.int .u32 (ca : Int), .int .u8 (cn : Int), .bool true, .int .u32 (ca : Int), .int .u8 (cn : Int), .int .i64 (via : Int), .int .u16 (mt : Int), .int .u16 (sq : Int), .int .u16 (q1 : Int), .int .u16 (q2 : Int)] := (Rz.step (by (repeat (with_reducible refine Rz.alloc ?_ _)); exact R.out.sets6 _ _ _ _ _ _) B5); have z0 : w5.cell? ⟨wr.heap.size + 1, 0, none⟩ = some (.int .u16 sq) := (by rw [B5.cell (p := ⟨wr.heap.size + 1, 0, none⟩) (by simp)]; simp [go_sem]); have z1 : w5.cell? ⟨wr.heap.size + 1, 1, none⟩ = some (.int .u16 mt) := (by rw [B5.cell (p := ⟨wr.heap.size + 1, 1, none⟩) (by simp)]; simp [go_sem]); clear p0 p1 p2 p3 p4 p5 p6 p7 p8 p9 fz t0 t1 B5; obtain ⟨⟨p0, p1, p2, p3, p4, p5, p6, p7, p8, p9⟩, fz⟩ := row10 RX.r2; have HRX := Lib.hid RX; clear RX))
              go_roundw
              case rel =>
                refine ⟨j + 1, by omega, by go_num, ⟨true, ⟨ca, cn, true, via, mt, sq, sq, mt⟩, true⟩, rfl, ⟨by rw [HX.out.1]; simp [S.go, S.step, near, hnr], ⟨rfl, rfl, hs, fun _ => rfl⟩⟩, ?_⟩
                show Rz w _ ca cn #[.int .u32 (ca : Int), .int .u8 (cn : Int), .bool true, .int .u32 (ca : Int), .int .u8 (cn : Int), .int .i64 (via : Int), .int .u16 (mt : Int), .int .u16 (sq : Int), .int .u16 (sq : Int), .int .u16 (mt : Int)]
                (repeat (with_reducible refine Rz.alloc ?_ _))
                exact HRX.out.sets2 _ _
              case measure => simp [intOf]; omega
        · go_wp2
          go_roundw
          case rel =>
            refine ⟨j + 1, by omega, by go_num, ⟨true, ⟨ca, cn, false, via, mt, sq, q1, q2⟩, ok⟩, rfl, ⟨by rw [HX.out.1]; simp [S.go, S.step], ⟨rfl, rfl, hms, fun _ => rfl⟩⟩, ?_⟩
            show Rz w _ ca cn #[.int .u32 (ca : Int), .int .u8 (cn : Int), .bool false, .int .u32 (ca : Int), .int .u8 (cn : Int), .int .i64 (via : Int), .int .u16 (mt : Int), .int .u16 (sq : Int), .int .u16 (q1 : Int), .int .u16 (q2 : Int)]
            (repeat (with_reducible refine Rz.alloc ?_ _))
            exact R.out.sets6 _ _ _ _ _ _
          case measure => simp [intOf]; omega
      · have e3 : ¬ ((ca : Int) = ra ∧ (cn : Int) = rk) := by omega
        have e4 : ¬ (ca = ra ∧ cn = rk) := by omega
        have HE4 := Lib.hid e4
        clear he e4
        go_wp2
        all_goals
          go_roundw
          case rel => exact ⟨j + 1, by omega, by go_num, ⟨seen, ⟨ra, rk, h, v1, m1, s1, q1, q2⟩, ok⟩, rfl, ⟨by rw [HX.out.1]; simp only [S.go, if_neg HE4.out], HS.out.2⟩, HR0.out.alloc _⟩
          case measure => simp [intOf]; omega
    · obtain rfl : j = n := by omega
      obtain rfl : s = F := by rw [HF.out, HS.out.1, List.take_of_length_le (by rw [HN.out]; exact Nat.le_refl _)]
      obtain ⟨x3, x4, hcl⟩ : ∃ x3 x4 : Int, s.cl = #[.int .u32 (s.r.addr : Int), .int .u8 (s.r.len : Int), .bool s.r.has, .int .u32 x3, .int .u8 x4, .int .i64 (s.r.via : Int), .int .u16 (s.r.metric : Int), .int .u16 (s.r.seq : Int), .int .u16 (s.r.ms : Int), .int .u16 (s.r.mm : Int)] := ⟨_, _, rfl⟩
      rw [hcl] at RR
      have HCL := Lib.hid hcl
      clear hcl
      obtain ⟨⟨u0, u1, u2, u3, u4, u5, u6, u7, u8, u9⟩, uf⟩ := row10 RR.r1
      obtain ⟨⟨p0, p1, p2, p3, p4, p5, p6, p7, p8, p9⟩, fz⟩ := row10 RR.r2
      have y1 : w.heap.size + 1 < wr.heap.size := (Array.getElem?_eq_some_iff.1 RR.r1).1
      have y2 : w.heap.size + 1 + 1 < wr.heap.size := (Array.getElem?_eq_some_iff.1 RR.r2).1
      have R := Lib.hid RR
      clear RR
      go_wp2
      exact bodyPost_ret (res52_tmp rfl _ _ (w.heap.size + 1) 60 _ (0, 0) rfl (put10 R.out.r1 ..) rfl) rfl ⟨by rw [HCL.out]; rfl, below10 R.out.bl (by omega) ..⟩
end Go.Proofs.Ytldaggcopbnehaa.Tab
