/-
  'For every input the Go function milestonelaw05.ShelfStops returns true, and each argument reads behind the call as it read before.'
  Conditions: none but the row's own (linux/amd64, sizes of what is read within the address space).
-/
import Derived.Test.YtkalgonkaoiapaaRows
import Derived.WalkKit
import Derived.ProofKit
import Derived.OpenShut
import Derived.ShutString
import Derived.ChangeOld
import Derived.Below
import Derived.Lib.SmallJoins
import Derived.Lib.Hide
import Derived.Test.YtkalgonkaoiapaaRgf
namespace Go.Proofs.Ytkalgonkaoiapaa.shelfStops
open Shf
open Go.ChangeShapes Go.WideShapes Go.ChangeAt Go.RowKit
open Go.ChangeMaps (open_string shut_string)
set_option linter.unusedVariables false

theorem own : ownKnob Try.prog.godebug = none := by kernel_rfl
theorem laidOut : laidOutB Try.prog = true := by kernel_rfl

/-- What the walk is told of a slice of integers that came in. -/
def IsRow (k : IntKind) (w : World) (a : Option Addr) (len cap : Nat) (zs : List Int) : Prop :=
  (a = none ∧ len = 0 ∧ cap = 0 ∧ zs = []) ∨
  ∃ x, a = some x ∧ len ≤ cap ∧ cap ≤ maxLen ∧ zs.length = cap ∧ (∀ i, i < zs.length → w.cell? (x.add i) = some (.int k (zs.getD i 0))) ∧ ∀ n ∈ zs, (Lit.int k n).wf = true

theorem bytes_of {w : World} {a : Option Addr} {len cap : Nat} {z : List Int} (h : IsRow .u8 w a len cap z) : ∃ l : List UInt8, len = l.length ∧ len ≤ maxLen ∧ len ≤ cap ∧ Rd w a l ∧ (a = none → cap = 0) := by
  rcases h with ⟨rfl, rfl, rfl, rfl⟩ | ⟨x, rfl, h1, h2, h3, h4, h5⟩
  · exact ⟨[], rfl, by unfold maxLen; omega, Nat.le_refl _, fun h => by simp at h, fun _ => rfl⟩
  · refine ⟨(z.take len).map fun n => UInt8.ofNat n.toNat, by simp; omega, by omega, h1, fun h0 => ⟨x, rfl, fun j hj => ?_⟩, fun h => by cases h⟩
    simp at hj
    have hz : z[j] ∈ z := List.getElem_mem _
    have hb := bounds_u8 (h5 _ hz)
    have hc := h4 j (by omega)
    have e : z.getD j 0 = z[j] := by rw [List.getD_eq_getElem?_getD, List.getElem?_eq_getElem]; rfl
    rw [e] at hc
    rw [hc]
    simp only [List.getElem_map, List.getElem_take, b8]
    congr 2
    simp; omega


/-- What is told of an act that came in as a value. -/
structure ActV (w : World) (d : ActD) : Prop where
  hAp : d.Ap = none → d.cp = 0
  hcp : d.p.length ≤ d.cp
  hm : d.cp ≤ maxLen
  rd : Rd w d.Ap d.p
  lt : 0 < d.p.length → ∀ ad, d.Ap = some ad → ad.block < w.heap.size
theorem actd_vals {H : Type} {enc : TypeId × Value → H} {w : World} {base n : Nat} {cs : List Value} {x : DataW H × List MemPlace} (h : DataW.trod enc Try.prog w base (fun _ => true) true n 38 cs = some x)
    (hs : ∃ fs, Try.prog.underlying 38 = some (.struct fs) ∧ fs.size = 5 ∧ ∀ i, i < 5 → ∃ f, fs[i]? = some f ∧ f.offset = i ∧ Try.prog.cellsOf f.type = 1 ∧ f.type = [5, 5, 5, 3, 22].getD i 0) :
    ∃ d : ActD, ActV w d ∧ cs = [.int .u8 (d.K : Int), .int .u8 (d.A : Int), .int .u8 (d.B : Int), .int .i64 d.N, .slice d.Ap d.p.length d.cp] := by
  obtain ⟨fs, hu, hsz, hf⟩ := hs
  obtain ⟨xs, n', _, _, hlen, hxl, hfld⟩ := DataW.trod_struct hu h
  have hl5 : cs.length = 5 := hlen.trans cells38
  obtain ⟨v0, v1, v2, v3, v4, rfl⟩ := five cs hl5
  have g : ∀ i (hi : i < 5), ∃ y, DataW.trod enc Try.prog w base (fun _ => true) true n' ([5, 5, 5, 3, 22].getD i 0) (([v0, v1, v2, v3, v4].drop i).take 1) = some y := fun i hi => by
    obtain ⟨f, h1, h2, h3, h4⟩ := hf i hi
    have := hfld i f h1
    rw [h2, h3, h4] at this
    exact ⟨_, this.trans (List.getElem?_eq_getElem (by omega))⟩
  obtain ⟨y0, g0⟩ := g 0 (by decide)
  obtain ⟨y1, g1⟩ := g 1 (by decide)
  obtain ⟨y2, g2⟩ := g 2 (by decide)
  obtain ⟨y3, g3⟩ := g 3 (by decide)
  obtain ⟨y4, g4⟩ := g 4 (by decide)
  obtain ⟨K, e0, _, w0⟩ := DataW.trod_int (t := 5) Try.underlying5 g0
  obtain ⟨A, e1, _, w1⟩ := DataW.trod_int (t := 5) Try.underlying5 g1
  obtain ⟨B, e2, _, w2⟩ := DataW.trod_int (t := 5) Try.underlying5 g2
  obtain ⟨N, e3, _, w3⟩ := DataW.trod_int (t := 3) Try.underlying3 g3
  have f0 : v0 = .int .u8 K := by simpa using e0
  have f1 : v1 = .int .u8 A := by simpa using e1
  have f2 : v2 = .int .u8 B := by simpa using e2
  have f3 : v3 = .int .i64 N := by simpa using e3
  subst f0 f1 f2 f3
  have b0 := bounds_u8 w0
  have b1 := bounds_u8 w1
  have b2 := bounds_u8 w2
  obtain ⟨K, rfl⟩ := Int.eq_ofNat_of_zero_le b0.1
  obtain ⟨A, rfl⟩ := Int.eq_ofNat_of_zero_le b1.1
  obtain ⟨B, rfl⟩ := Int.eq_ofNat_of_zero_le b2.1
  rcases open_ints (t := 22) Try.underlying22 Try.underlying5 cells5 g4 with ⟨e4, _⟩ | ⟨ad, len, cap, zs, e4, _, hl, hm, hz, _, hc, hw⟩
  · have f4 : v4 = .slice none 0 0 := by simpa using e4
    subst f4
    exact ⟨⟨K, A, B, N, [], none, 0⟩, ⟨fun _ => rfl, Nat.le_refl _, Nat.zero_le _, fun h => by simp at h, fun h => by simp at h⟩, rfl⟩
  · have f4 : v4 = .slice (some ad) len cap := by simpa using e4
    subst f4
    obtain ⟨l, hl1, hl2, hl3⟩ := row_bytes hl (by simpa using hz) hc hw
    subst hl1
    exact ⟨⟨K, A, B, N, l, some ad, cap⟩, ⟨(fun h => by cases h), hl, hm, hl2, fun h0 a ha => by injection ha with ha; subst ha; exact hl3 h0⟩, rfl⟩
set_option maxRecDepth 8000 in
theorem actd_val {H : Type} {enc : TypeId × Value → H} {w : World} {base b0 : Nat} {r : Reach} {v : Value} {d : DataW H} {p : List MemPlace} (hv : Value.okWide Try.prog w r b0 38 v) (h : DataW.Trod enc Try.prog w base (fun _ => true) true 38 v d p) :
    ∃ x : ActD, ActV w x ∧ v = .agg #[.int .u8 (x.K : Int), .int .u8 (x.A : Int), .int .u8 (x.B : Int), .int .i64 x.N, .slice x.Ap x.p.length x.cp] := by
  obtain ⟨fs, hu, hsz, hf⟩ := struct38
  obtain ⟨cs, rfl, _⟩ := okWide_struct hu hv
  obtain ⟨fuel, hf⟩ := h
  obtain ⟨x, hx, e⟩ := actd_vals hf struct38
  refine ⟨x, hx, ?_⟩
  have e : cs.toList = [.int .u8 (x.K : Int), .int .u8 (x.A : Int), .int .u8 (x.B : Int), .int .i64 x.N, .slice x.Ap x.p.length x.cp] := by simpa [Value.cells] using e
  have e2 : cs = #[.int .u8 (x.K : Int), .int .u8 (x.A : Int), .int .u8 (x.B : Int), .int .i64 x.N, .slice x.Ap x.p.length x.cp] := Array.toList_inj.1 e
  rw [e2]
/-- A shelf that stands at its place; whatever was ahead of it is as it was. -/
structure StandsAt (W wr : World) (q : Nat) (m : M) : Prop where
  ex : ∃ T, Rep wr T q m ∧ ∀ b, T b ≠ .none → W.heap.size ≤ b
  be : Below W.heap.size W wr
theorem StandsAt.step {W wr w' : World} {q : Nat} {m' : M} {T T' : Nat → Tag} (be : Below W.heap.size W wr) (lo : ∀ b, T b ≠ .none → W.heap.size ≤ b) (R' : Rep w' T' q m') (X : Ext wr T w' T') : StandsAt W w' q m' :=
  ⟨⟨T', R', X.low be.size lo R'⟩, be.trans (X.below be.size lo)⟩
theorem StandsAt.below {W wr w' : World} {q : Nat} {m : M} (h : StandsAt W wr q m) (B : Below wr.heap.size wr w') : StandsAt W w' q m := by
  obtain ⟨⟨T, R, lo⟩, be⟩ := h
  exact ⟨⟨T, R.below B, lo⟩, be.trans (B.mono be.size)⟩
theorem st_names {W wr : World} {q : Nat} {m : M} (h : StandsAt W wr q m) (hd : m.done ≤ 1000) : Calls Try.prog 14 #[.pointer (some ⟨q, 0, none⟩)] wr fun e w' => e = .returned (.int .i64 (m.actE : Int)) ∧ StandsAt W w' q m.names := by
  obtain ⟨⟨T, R, lo⟩, be⟩ := h
  exact (names_rep wr T q m R (by omega)).mono fun e w' ⟨h1, T', R', X⟩ => ⟨h1, .step be lo R' X⟩
theorem st_on {W wr : World} {q : Nat} {m : M} (h : StandsAt W wr q m) : Calls Try.prog 22 #[.pointer (some ⟨q, 0, none⟩)] wr fun e w' => e = .returned (.bool (!m.fallen)) ∧ wr = w' := by
  obtain ⟨⟨T, R, lo⟩, be⟩ := h
  exact on_rep wr T q m R
theorem st_done {W wr : World} {q : Nat} {m : M} (h : StandsAt W wr q m) : Calls Try.prog 21 #[.pointer (some ⟨q, 0, none⟩)] wr fun e w' => e = .returned (.int .i64 (m.done : Int)) ∧ wr = w' := by
  obtain ⟨⟨T, R, lo⟩, be⟩ := h
  exact done_rep wr T q m R
theorem st_arm {W wr : World} {q : Nat} {m : M} (h : StandsAt W wr q m) (n : Int) (hn : n < 9223372036854775808) : Calls Try.prog 20 #[.pointer (some ⟨q, 0, none⟩), .int .i64 n] wr fun e w' => e = .returned (.tuple #[]) ∧ StandsAt W w' q (m.arm n) := by
  obtain ⟨⟨T, R, lo⟩, be⟩ := h
  exact (arm_rep wr T q m R n hn).mono fun e w' ⟨h1, R', X⟩ => ⟨h1, .step be lo R' X⟩
theorem st_fall {W wr : World} {q : Nat} {m : M} (h : StandsAt W wr q m) (hd : m.done ≤ 1000) (a b : Int) : Calls Try.prog 17 #[.pointer (some ⟨q, 0, none⟩), .int .i64 a, .int .i64 b] wr fun e w' => e = .returned (.tuple #[]) ∧ StandsAt W w' q (m.fall a b) := by
  obtain ⟨⟨T, R, lo⟩, be⟩ := h
  exact (fall_rep wr T q m a b R (by omega)).mono fun e w' ⟨h1, T', R', X⟩ => ⟨h1, .step be lo R' X⟩
theorem dead_act {m : M} (hf : m.fallen = true) : m.act = m ∧ m.actE = 7 ∧ (∀ s, m.onF s = none) ∧ ∀ s, m.onE s = 7 := by
  have e : m.actE = 7 := by unfold M.actE; rw [hf]; simp
  refine ⟨by unfold M.act; rw [hf]; simp, e, fun s => by unfold M.onF; rw [if_pos e], fun s => by unfold M.onE; rw [if_pos e]⟩
theorem dead_sync {W wr : World} {q : Nat} {m : M} (h : StandsAt W wr q m) (hf : m.fallen = true) (hd : m.done ≤ 1000) (nm : ByteArray) (s : S) (hnm : nm = str s) (hs : s.length ≤ 1000) : Calls Try.prog 13 #[.pointer (some ⟨q, 0, none⟩), .string nm] wr fun e w' => e = .returned (.int .i64 7) ∧ StandsAt W w' q m := by
  subst hnm
  obtain ⟨a1, a2, a3, a4⟩ := dead_act hf
  obtain ⟨⟨T, R, lo⟩, be⟩ := h
  refine (sync_rep wr T q m s R (by omega) hs).mono fun e w' ⟨h1, T', R', X⟩ => ?_
  rw [show m.sync s = m by unfold M.sync; rw [a3]; exact a1] at R'
  rw [a4] at h1
  exact ⟨h1, .step be lo R' X⟩
theorem dead_append {W wr : World} {q : Nat} {m : M} (h : StandsAt W wr q m) (hf : m.fallen = true) (hd : m.done ≤ 1000) (hr : -1000000000 ≤ m.room) (nm : ByteArray) (s : S) (hnm : nm = str s) (hs : s.length ≤ 1000) (p : S) (A : Option Addr) (c lp : Nat) (hlp : lp = p.length) (hp : Rd W A p) (hlt : 0 < p.length → ∀ ad, A = some ad → ad.block < W.heap.size) (hA : A = none → c = 0) (hpl : p.length ≤ 1000000000) :
    Calls Try.prog 12 #[.pointer (some ⟨q, 0, none⟩), .string nm, .slice A lp c] wr fun e w' => e = .returned (.int .i64 7) ∧ StandsAt W w' q m := by
  subst hnm
  subst hlp
  obtain ⟨a1, a2, a3, a4⟩ := dead_act hf
  obtain ⟨⟨T, R, lo⟩, be⟩ := h
  have hN : RdN wr T A p := ⟨hp.at (fun ad e h0 => be.block _ (hlt h0 ad e)), fun h0 ad e => by
    have hl := hlt h0 ad e
    refine ⟨?_, Nat.lt_of_lt_of_le hl be.size⟩
    cases et : T ad.block with
    | none => rfl
    | _ => exact absurd (lo ad.block (by rw [et]; intro h; cases h)) (by omega)⟩
  refine (append_rep wr T q m s p A c R (by omega) hs hN hA hpl (by omega)).mono fun e w' ⟨h1, T', R', X⟩ => ?_
  rw [show m.append s p = m by unfold M.append; rw [a3]; exact a1] at R'
  rw [show m.appendE s p = 7 by unfold M.appendE; rw [a3]; exact a4 s] at h1
  exact ⟨h1, .step be lo R' X⟩
theorem dead_delete {W wr : World} {q : Nat} {m : M} (h : StandsAt W wr q m) (hf : m.fallen = true) (hd : m.done ≤ 1000) (nm : ByteArray) (s : S) (hnm : nm = str s) (hs : s.length ≤ 1000) : Calls Try.prog 23 #[.pointer (some ⟨q, 0, none⟩), .string nm] wr fun e w' => e = .returned (.int .i64 7) ∧ StandsAt W w' q m := by
  subst hnm
  obtain ⟨a1, a2, a3, a4⟩ := dead_act hf
  obtain ⟨⟨T, R, lo⟩, be⟩ := h
  refine (delete_rep wr T q m s R (by omega) hs).mono fun e w' ⟨h1, T', R', X⟩ => ?_
  rw [show m.delete s = m by unfold M.delete; rw [a3]; exact a1] at R'
  rw [a4] at h1
  exact ⟨h1, .step be lo R' X⟩
theorem dead_create {W wr : World} {q : Nat} {m : M} (h : StandsAt W wr q m) (hf : m.fallen = true) (hd : m.done ≤ 1000) (nm : ByteArray) (s : S) (hnm : nm = str s) (hs : s.length ≤ 1000) (hn : nameOk s = true) : Calls Try.prog 11 #[.pointer (some ⟨q, 0, none⟩), .string nm] wr fun e w' => e = .returned (.int .i64 7) ∧ StandsAt W w' q m := by
  subst hnm
  obtain ⟨a1, a2, a3, a4⟩ := dead_act hf
  obtain ⟨⟨T, R, lo⟩, be⟩ := h
  refine (create_rep wr T q m s R (by omega) hs).mono fun e w' ⟨h1, T', b, R', X, _⟩ => ?_
  rw [show m.create s b = m by unfold M.create; rw [if_neg (by rw [hn]; simp), if_pos a2]; exact a1] at R'
  rw [show m.createE s = 7 by unfold M.createE; rw [if_neg (by rw [hn]; simp), if_pos a2]] at h1
  exact ⟨h1, .step be lo R' X⟩
theorem dead_rename {W wr : World} {q : Nat} {m : M} (h : StandsAt W wr q m) (hf : m.fallen = true) (hd : m.done ≤ 1000) (nm tm : ByteArray) (s t : S) (hnm : nm = str s) (htm : tm = str t) (hs : s.length ≤ 1000) (ht : t.length ≤ 1000) (hn : nameOk t = true) : Calls Try.prog 24 #[.pointer (some ⟨q, 0, none⟩), .string nm, .string tm] wr fun e w' => e = .returned (.int .i64 7) ∧ StandsAt W w' q m := by
  subst hnm htm
  obtain ⟨a1, a2, a3, a4⟩ := dead_act hf
  obtain ⟨⟨T, R, lo⟩, be⟩ := h
  refine (rename_rep wr T q m s t R (by omega) hs ht).mono fun e w' ⟨h1, T', R', X⟩ => ?_
  rw [show m.rename s t = m by unfold M.rename; rw [if_neg (by rw [hn]; simp), a3]; exact a1] at R'
  rw [show m.renameE s t = 7 by unfold M.renameE; rw [if_neg (by rw [hn]; simp)]; exact a4 s] at h1
  exact ⟨h1, .step be lo R' X⟩
theorem dead_cut {W wr : World} {q : Nat} {m : M} (h : StandsAt W wr q m) (hf : m.fallen = true) (hd : m.done ≤ 1000) (nm : ByteArray) (s : S) (hnm : nm = str s) (hs : s.length ≤ 1000) (k : Int) (hk : (Lit.int .i64 k).wf = true) : Calls Try.prog 25 #[.pointer (some ⟨q, 0, none⟩), .string nm, .int .i64 k] wr fun e w' => e = .returned (.int .i64 7) ∧ StandsAt W w' q m := by
  subst hnm
  obtain ⟨a1, a2, a3, a4⟩ := dead_act hf
  obtain ⟨⟨T, R, lo⟩, be⟩ := h
  refine (cut_rep wr T q m s k R (by omega) hs hk).mono fun e w' ⟨h1, T', R', X⟩ => ?_
  rw [show m.cut s k = m by unfold M.cut; rw [a3]; exact a1] at R'
  rw [show m.cutE s k = 7 by unfold M.cutE; rw [a3]; exact a4 s] at h1
  exact ⟨h1, .step be lo R' X⟩
/-- Armed for so many acts still. -/
def Armed (m : M) (k : Int) : Prop := m.armed = true ∧ m.ahead = k ∧ m.fallen = false
theorem Armed.names {m : M} {k : Int} (h : Armed m k) (hk : k ≠ 0) : m.actE = 0 ∧ Armed m.names (k - 1) ∧ m.names.done = m.done + 1 ∧ m.names.room = m.room := by
  obtain ⟨h1, h2, h3⟩ := h
  have e : m.actE = 0 := by unfold M.actE; rw [h1, h2, h3]; simp [hk]
  have a : m.act = {m with ahead := m.ahead - 1, done := m.done + 1} := by unfold M.act; rw [h1, h2, h3]; simp [hk]
  refine ⟨e, ?_⟩
  unfold M.names
  rw [if_neg (by omega), a]
  exact ⟨⟨h1, by show m.ahead - 1 = _; rw [h2], h3⟩, rfl, rfl⟩
theorem Armed.stops {m : M} (h : Armed m 0) : m.actE = 7 ∧ m.names.fallen = true ∧ m.names.done = m.done ∧ m.names.room = m.room := by
  obtain ⟨h1, h2, h3⟩ := h
  have e : m.actE = 7 := by unfold M.actE; rw [h1, h2, h3]; simp
  have a : m.act = {m with fallen := true} := by unfold M.act; rw [h1, h2, h3]; simp
  refine ⟨e, ?_⟩
  unfold M.names
  rw [if_pos e, a]
  exact ⟨rfl, rfl, rfl⟩
theorem fall_live (m : M) (a b : Int) : (m.fall a b).fallen = false ∧ (m.fall a b).actE = 0 ∧ (m.fall a b).done = m.done := ⟨rfl, by unfold M.actE; simp [M.fall], rfl⟩
/-- No name but those of the acts. -/
def Names3 (l : List (S × Nat)) : Prop := ∀ p ∈ l, p.1 ≠ zN ∧ p.1.length ≤ 3
theorem Names3.wo {l : List (S × Nat)} (h : Names3 l) (s : S) : Names3 (wo l s) := fun p hp => h p (wo_mem hp)
theorem Names3.wi {l : List (S × Nat)} (h : Names3 l) (a f : Nat) : Names3 (wi l (nameOf a) f) := fun p hp => by
  unfold Shf.wi at hp
  rcases List.mem_append.1 hp with hp | hp
  · exact h.wo _ p hp
  · rw [List.mem_singleton.1 hp]
    exact ⟨nameOf_ne a, nameOf_small a⟩
theorem Names3.none {l : List (S × Nat)} (h : Names3 l) : get l zN = none := get_none.2 fun b hb => (h _ hb).1 rfl
theorem doX_names {x : X} (h : Names3 x.now) (K A B : Nat) (N : Int) (p : S) (hk : K % 12 < 9) : Names3 (doX x K A B N p).now := by
  have ha : Names3 x.act.now := by rw [x.act_same.2.1]; exact h
  have hk' : K % 12 = 0 ∨ K % 12 = 1 ∨ K % 12 = 2 ∨ K % 12 = 3 ∨ K % 12 = 4 ∨ K % 12 = 5 ∨ K % 12 = 6 ∨ K % 12 = 7 ∨ K % 12 = 8 := by omega
  have hcr : Names3 (x.create (nameOf A)).1.now := by
    unfold X.create
    split
    · split
      · exact ha
      · split
        · exact ha
        · exact h.wi _ _
    · exact h
  have hap : Names3 (x.append (nameOf A) p).1.now := by
    unfold X.append
    split
    · exact ha
    · split
      · exact ha
      · split <;> exact ha
  rcases hk' with e | e | e | e | e | e | e | e | e
  · rw [show doX x K A B N p = (x.create (nameOf A)).1 by unfold doX; rw [e]; rfl]
    exact hcr
  · rw [show doX x K A B N p = (x.create (nameOf A)).1 by unfold doX; rw [e]; rfl]
    exact hcr
  · rw [show doX x K A B N p = (x.append (nameOf A) p).1 by unfold doX; rw [e]; rfl]
    exact hap
  · rw [show doX x K A B N p = (x.append (nameOf A) p).1 by unfold doX; rw [e]; rfl]
    exact hap
  · rw [show doX x K A B N p = (x.sync (nameOf A)).1 by unfold doX; rw [e]; rfl]
    unfold X.sync
    split
    · exact ha
    · split <;> exact ha
  · rw [show doX x K A B N p = (if x.stop then x.act else { x.act with was := [x.now] }) by unfold doX; rw [e]; rfl]
    split <;> exact ha
  · rw [show doX x K A B N p = (x.rename (nameOf A) (nameOf B)).1 by unfold doX; rw [e]; rfl]
    unfold X.rename
    split
    · split
      · exact ha
      · split
        · exact ha
        · split
          · exact ha
          · exact (h.wo _).wi _ _
    · exact h
  · rw [show doX x K A B N p = (x.delete (nameOf A)).1 by unfold doX; rw [e]; rfl]
    unfold X.delete
    split
    · exact ha
    · split
      · exact ha
      · exact h.wo _
  · rw [show doX x K A B N p = (x.cut (nameOf A) N).1 by unfold doX; rw [e]; rfl]
    unfold X.cut
    split
    · exact ha
    · split
      · exact ha
      · split <;> exact ha
theorem actAt_at {w w' : World} {b o : Nat} {d : ActD} (h : ActAt w b o d) (hb : b < w.heap.size) (B : Below w.heap.size w w') : ActAt w' b o d := by
  have c := act5 h hb B
  exact ⟨c.1, c.2.1, c.2.2.1, c.2.2.2.1, c.2.2.2.2, h.hK, h.hA, h.hB, h.hN, h.hAp, h.hcp, h.hm, h.rd.at (fun ad e h0 => B.block _ (h.lt h0 ad e)), fun h0 ad e => Nat.lt_of_lt_of_le (h.lt h0 ad e) B.size⟩
theorem acts_at {w : World} {a : Option Addr} {len : Nat} {ds : List ActD} (h : len = ds.length ∧ ∀ k (hk : k < ds.length), ∃ b o, a = some ⟨b, o, none⟩ ∧ b < w.heap.size ∧ ActAt w b (o + k * 5) ds[k]) {k : Nat} (hk : k < len) : ∃ b o d, a = some ⟨b, o, none⟩ ∧ b < w.heap.size ∧ ActAt w b (o + k * 5) d := by
  obtain ⟨_, h4⟩ := h
  obtain ⟨b, o, e, hb, hd⟩ := h4 k (by omega)
  exact ⟨b, o, _, e, hb, hd⟩
/-- Between two acts of the law. -/
def StopAt (W wr : World) (q g : Nat) (k : Nat) : Prop := ∃ (T : Nat → Tag) (m : M) (cs : Array Value) (x : X) (f : Nat → Nat), Both W wr T q g m cs x ∧ x.Inv k ∧ m.done ≤ k ∧ m.room = 300 ∧ Sim T m x f ∧ Names3 x.now
theorem box_ok {w : World} {d : ActD} (h : ActV w d) (X : Obj) : ActV (w.alloc X) d :=
  have B : Below w.heap.size w (w.alloc X) := (Below.refl _ _).alloc (Nat.le_refl _) _
  ⟨h.hAp, h.hcp, h.hm, h.rd.at (fun ad e h0 => B.block _ (h.lt h0 ad e)), fun h0 ad e => Nat.lt_of_lt_of_le (h.lt h0 ad e) B.size⟩

set_option maxRecDepth 8000 in
set_option maxHeartbeats 4000000 in
theorem walk (a0 : Option Addr) (len0 cap0 : Nat) (z0 : List ActD) (a1 : Int) (x2 : ActD) (w : World) (w0 : IsActs w a0 len0 cap0 z0) (w1 : (Lit.int .u8 a1).wf = true) (w2 : ActV w x2) :
    Calls Try.prog 4 #[.slice a0 len0 cap0, .int .u8 a1, .agg #[.int .u8 (x2.K : Int), .int .u8 (x2.A : Int), .int .u8 (x2.B : Int), .int .i64 x2.N, .slice x2.Ap x2.p.length x2.cp]] w fun e w' => e = .returned (.bool true) ∧ Below w.heap.size w w' := by
  obtain ⟨hl1, hl2, hl3, HA⟩ := w0
  have kr := bounds_u8 w1
  clear w1
  unfold maxLen at hl3
  have N0 := heap_alloc_new w (.cells #[.int .u8 (x2.K : Int), .int .u8 (x2.A : Int), .int .u8 (x2.B : Int), .int .i64 x2.N, .slice x2.Ap x2.p.length x2.cp] 38)
  have B0 : Below w.heap.size w (w.alloc (.cells #[.int .u8 (x2.K : Int), .int .u8 (x2.A : Int), .int .u8 (x2.B : Int), .int .i64 x2.N, .slice x2.Ap x2.p.length x2.cp] 38)) := (Below.refl _ _).alloc (Nat.le_refl _) _
  have HV := Lib.hid (box_ok w2 (.cells #[.int .u8 (x2.K : Int), .int .u8 (x2.A : Int), .int .u8 (x2.B : Int), .int .i64 x2.N, .slice x2.Ap x2.p.length x2.cp] 38))
  have HA0 : ∀ k (hk : k < z0.length), ∃ b o, a0 = some ⟨b, o, none⟩ ∧ b < (w.alloc (.cells #[.int .u8 (x2.K : Int), .int .u8 (x2.A : Int), .int .u8 (x2.B : Int), .int .i64 x2.N, .slice x2.Ap x2.p.length x2.cp] 38)).heap.size ∧ ActAt (w.alloc (.cells #[.int .u8 (x2.K : Int), .int .u8 (x2.A : Int), .int .u8 (x2.B : Int), .int .i64 x2.N, .slice x2.Ap x2.p.length x2.cp] 38)) b (o + k * 5) z0[k] := fun k hk => by
    obtain ⟨b, o, e, hb, hd⟩ := HA k hk
    exact ⟨b, o, e, Nat.lt_of_lt_of_le hb B0.size, actAt_at hd hb B0⟩
  have HA' := Lib.hid (And.intro hl1 HA0)
  clear w2 HA hl1 HA0
  obtain ⟨lp, hlp⟩ : ∃ n, n = x2.p.length := ⟨_, rfl⟩
  have HLP := Lib.hid hlp
  by_cases h2 : 20 < len0
  · have h2' : (20 : Int) < len0 := by omega
    clear h2 HLP hlp
    go_enter Try.func4, Try.ntmps4
    go_upto_region 1 with (fail)
    generalize w.alloc (.cells #[.int .u8 (x2.K : Int), .int .u8 (x2.A : Int), .int .u8 (x2.B : Int), .int .i64 x2.N, .slice x2.Ap x2.p.length x2.cp] 38) = W at *
    obtain ⟨-, -, -, -, y4⟩ := row5 N0
    go_wp2_with fail
    refine (awake_any _).mono ?_
    rintro e w1 ⟨rfl, h1⟩
    replace y4 := (h1.cell (p := ⟨w.heap.size, 4, none⟩) (Array.getElem?_eq_some_iff.1 N0).1).trans y4
    go_wp2_with fail
    refine (awake_any _).mono ?_
    rintro e w2 ⟨rfl, h2⟩
    go_wp2_with fail
    go_ret
    exact ⟨rfl, B0.trans ((h1.trans (h2.mono h1.size)).mono B0.size)⟩
  have h2' : ¬ (20 : Int) < len0 := by omega
  have hl20 : len0 ≤ 20 := by omega
  by_cases h3 : 60 < x2.p.length
  · have h3' : (60 : Int) < x2.p.length := by omega
    clear h3 HLP hlp
    go_enter Try.func4, Try.ntmps4
    go_upto_region 1 with (fail)
    generalize w.alloc (.cells #[.int .u8 (x2.K : Int), .int .u8 (x2.A : Int), .int .u8 (x2.B : Int), .int .i64 x2.N, .slice x2.Ap x2.p.length x2.cp] 38) = W at *
    obtain ⟨-, -, -, -, y4⟩ := row5 N0
    go_wp2_with fail
    refine (awake_any _).mono ?_
    rintro e w1 ⟨rfl, h1⟩
    replace y4 := (h1.cell (p := ⟨w.heap.size, 4, none⟩) (Array.getElem?_eq_some_iff.1 N0).1).trans y4
    go_wp2_with fail
    refine (awake_any _).mono ?_
    rintro e w2 ⟨rfl, h2⟩
    go_wp2_with fail
    go_ret
    exact ⟨rfl, B0.trans ((h1.trans (h2.mono h1.size)).mono B0.size)⟩
  have h3' : ¬ (60 : Int) < x2.p.length := by omega
  have H60 := Lib.hid (show x2.p.length ≤ 60 by omega)
  clear h2 h3
  go_enter Try.func4, Try.ntmps4
  go_upto_region 1 with (fail)
  generalize w.alloc (.cells #[.int .u8 (x2.K : Int), .int .u8 (x2.A : Int), .int .u8 (x2.B : Int), .int .i64 x2.N, .slice x2.Ap x2.p.length x2.cp] 38) = W at *
  rw [← hlp] at N0 h3'
  clear hlp
  obtain ⟨-, -, -, -, y4⟩ := row5 N0
  go_wp2_with (first
    | (go_at_call 9; (with_reducible refine (awake_any _).mono ?_); rintro e w1 ⟨rfl, B1⟩; replace y4 := (B1.cell (p := ⟨w.heap.size, 4, none⟩) (Array.getElem?_eq_some_iff.1 N0).1).trans y4; have c10 := new_rep w1 300 (by decide))
    | (go_at_call 10; refine c10.mono ?_; rintro e w2 ⟨q, T1, rfl, R1, B2, L1⟩; have hB2 := B1.trans (B2.mono B1.size); have L1 : ∀ k, T1 k ≠ .none → W.heap.size ≤ k := fun k hk => Nat.le_trans B1.size (L1 k hk); have c15 := xnew_any w2 T1 300 (fun b hb => by obtain ⟨⟨nv, sv, mv, nn, ns, RV⟩, _⟩ := R1; exact RV.old b hb); clear c10)
    | (go_at_call 15; refine c15.mono ?_; rintro e w7 ⟨xv, rfl, RX7, B7⟩; obtain ⟨A1, n1, c1, A2, n2, c2, A3, n3, c3, rm, lf, of, dn, rfl⟩ := RX7.form5; have BT := both_new hB2 L1 R1 B7 RX7; clear RX7 B7 c15 R1 hB2 L1 B1 B2 y4)
    | go_in)
  generalize w7.alloc _ = w8 at *
  generalize w7.heap.size = g at *
  have hS : StopAt W w8 q g 0 := ⟨T1, _, _, _, _, BT, X.new_inv _, Nat.le_refl _, rfl, Sim.new T1 300, fun p hp => by simp [X.new] at hp⟩
  clear BT
  have HN0 := Lib.hid (And.intro N0 B0)
  clear N0 B0
  go_loopw [9] (fun i wr => ∃ k : Nat, k ≤ len0 ∧ i = .int .i64 k ∧ StopAt W wr q g k) (fun i _ => len0 - (intOf i).toNat)
  case atStart => exact ⟨0, by omega, rfl, hS⟩
  case round =>
    obtain ⟨k, hk, rfl, S⟩ := hrel
    clear hS
    by_cases hlt : k < len0
    · obtain ⟨b0, o0, d, ea, hb0, hd⟩ := acts_at HA'.out hlt
      subst ea
      obtain ⟨T, m, cs, x, f, BT, IX, hm, hr, hsim, hnm⟩ := S
      obtain ⟨A1, n1, c1, A2, n2, c2, A3, n3, c3, rm, lf, of, dn, ecs⟩ := BT.rx.form5
      injection ecs with ecs
      subst ecs
      by_cases h60 : 60 < d.p.length
      · have hcells := act5 hd hb0 BT.be
        obtain ⟨y0, y1, y2, y3, y4⟩ := hcells
        have h60' : (60 : Int) < (d.p.length : Int) := by omega
        go_wp2
        go_ret
        exact ⟨rfl, HN0.out.2.trans (BT.be.mono HN0.out.2.size)⟩
      have h60' : ¬ (60 : Int) < (d.p.length : Int) := by omega
      by_cases h9 : d.K % 12 < 9
      · have h9' : (d.K : Int) % 12 < 9 := by omega
        have hroom : -1000000000 ≤ m.room := by omega
        have hFi := BT.rp.2
        have HR := Lib.hid hr
        have HU := Lib.hid (And.intro hsim hnm)
        clear hr hsim hnm
        obtain ⟨y0, y1, y2, y3, y4⟩ := act5 hd hb0 BT.be
        go_upto_region 12 with (fail)
        clear y0 y1 y2 y3 y4
        refine wp_region_noPanic ?_
        refine wp_region_held_drew (S := fun x : World => Below W.heap.size W x) (by kernel_rfl) (BT.be.drew) (fun hHeld => ?_)
        replace BT := BT.drew
        generalize wr.drew = wd at *
        refine wpAnyH_take (i := 0) (oi := { dst := some 52, op := Op.move (Operand.tmp 7), type := 25, pos := "law.go:165", after := #[], guard := none }) (v := .pointer (some ⟨q, 0, none⟩)) rfl (by kernel_rfl) (by kernel_rfl) (by kernel_rfl) (fun _ _ _ h => h) (Or.inl ⟨by rfl, fun w hSw => by go_simp⟩) (by assumption) ?_
        try simp only [Act.put, List.setIfInBounds_toArray, List.set_cons_zero, List.set_cons_succ]
        refine wpAnyH_take (i := 2) (oi := { dst := some 54, op := Op.move (Operand.tmp 0), type := 23, pos := "law.go:165", after := #[], guard := none }) (v := .slice (some ⟨b0, o0, none⟩) len0 cap0) rfl (by kernel_rfl) (by kernel_rfl) (by kernel_rfl) (fun _ _ _ h => h) (Or.inl ⟨by rfl, fun w hSw => by go_simp⟩) (by assumption) ?_
        try simp only [Act.put, List.setIfInBounds_toArray, List.set_cons_zero, List.set_cons_succ]
        refine wpAnyH_take (i := 3) (oi := { dst := some 55, op := Op.move (Operand.tmp 9), type := 3, pos := "law.go:165", after := #[], guard := none }) (v := .int .i64 (k : Int)) rfl (by kernel_rfl) (by kernel_rfl) (by kernel_rfl) (fun _ _ _ h => h) (Or.inl ⟨by rfl, fun w hSw => by go_simp⟩) (by assumption) ?_
        try simp only [Act.put, List.setIfInBounds_toArray, List.set_cons_zero, List.set_cons_succ]
        refine wpAnyH_take (i := 4) (oi := { dst := some 56, op := Op.indexAddr 23 (Operand.tmp 54) (Operand.tmp 55), type := 0, pos := "law.go:165", after := #[{ on := 2, ground := Ground.data }, { on := 3, ground := Ground.data }], guard := none }) (v := .pointer (some ⟨b0, o0 + k * 5, none⟩)) rfl (by kernel_rfl) (by kernel_rfl) (by kernel_rfl) (fun _ _ _ h => h) (Or.inl ⟨by rfl, fun w hSw => by go_simp⟩) (by assumption) ?_
        try simp only [Act.put, List.setIfInBounds_toArray, List.set_cons_zero, List.set_cons_succ]
        refine wpAnyH_take (i := 5) (oi := { dst := some 57, op := Op.load 38 (Operand.tmp 56), type := 38, pos := "law.go:165", after := #[{ on := 4, ground := Ground.data }], guard := none }) (v := .agg #[.int .u8 (d.K : Int), .int .u8 (d.A : Int), .int .u8 (d.B : Int), .int .i64 d.N, .slice d.Ap d.p.length d.cp]) rfl (by kernel_rfl) (by kernel_rfl) (by kernel_rfl) (fun _ _ _ h => h) (Or.inl ⟨by rfl, fun w hSw => by obtain ⟨y0, y1, y2, y3, y4⟩ := act5 hd hb0 hSw; go_simp⟩) (by assumption) ?_
        try simp only [Act.put, List.setIfInBounds_toArray, List.set_cons_zero, List.set_cons_succ]
        refine wpAnyH_ready (rs := [1]) (by kernel_rfl) (by simp) ?_
        refine AllReadyH.cons (o := { dst := some 53, op := Op.load 35 (Operand.tmp 8), type := 35, pos := "law.go:165", after := #[], guard := none }) rfl (fun K hK => ?_) AllReadyH.nil
        have zz := row7 BT.bx
        have g0 := zz.1
        have g1 := zz.2.1
        have g2 := zz.2.2.1
        have g3 := zz.2.2.2.1
        have g4 := zz.2.2.2.2.1
        have g5 := zz.2.2.2.2.2.1
        have g6 := zz.2.2.2.2.2.2.1
        clear zz
        go_simp
        refine hK.out _ _ (hHeld) (fun hHeld => ?_)
        clear hK K
        try simp only [Act.put, List.setIfInBounds_toArray, List.set_cons_zero, List.set_cons_succ]
        clear g0 g1 g2 g3 g4 g5 g6
        refine wpAnyH_ready (rs := [6]) (by kernel_rfl) (by simp) ?_
        refine AllReadyH.cons (o := { dst := some 58, op := Op.call { callee := Callee.value (Operand.func 16), args := #[Operand.tmp 52, Operand.tmp 53, Operand.tmp 57], argTypes := #[25, 35, 38] }, type := 39, pos := "law.go:165", after := #[{ on := 0, ground := Ground.data }, { on := 1, ground := Ground.data }, { on := 5, ground := Ground.data }], guard := none }) rfl (fun K hK => ?_) AllReadyH.nil
        go_simp
        refine (both_do BT IX (by omega) (by omega) hd (by omega) (by omega)).mono ?_
        rintro e w9 ⟨T9, A4, n4, c4, A5, n5, c5, A6, n6, c6, r9, l9, o9, d9, m9, b9, rfl, hD9, H9, hF9⟩
        refine hK.out _ _ (H9.be) (fun hHeld => ?_)
        clear hK K
        try simp only [Act.put, List.setIfInBounds_toArray, List.set_cons_zero, List.set_cons_succ]
        refine wpAnyH_take (i := 7) (oi := { dst := some 51, op := Op.move (Operand.tmp 58), type := 39, pos := "law.go:165", after := #[{ on := 6, ground := Ground.data }], guard := none }) (v := .tuple #[.agg #[.slice A4 n4 c4, .slice A5 n5 c5, .slice A6 n6 c6, .int .i64 r9, .int .i64 l9, .bool o9, .int .i64 d9], .bool b9]) rfl (by kernel_rfl) (by kernel_rfl) (by kernel_rfl) (fun _ _ _ h => h) (Or.inl ⟨by rfl, fun w hSw => by go_simp⟩) (by assumption) ?_
        try simp only [Act.put, List.setIfInBounds_toArray, List.set_cons_zero, List.set_cons_succ]
        refine wpAnyH_take (i := 8) (oi := { dst := some 59, op := Op.extract (Operand.tmp 51) 0, type := 35, pos := "law.go:165", after := #[{ on := 7, ground := Ground.data }], guard := none }) (v := .agg #[.slice A4 n4 c4, .slice A5 n5 c5, .slice A6 n6 c6, .int .i64 r9, .int .i64 l9, .bool o9, .int .i64 d9]) rfl (by kernel_rfl) (by kernel_rfl) (by kernel_rfl) (fun _ _ _ h => h) (Or.inl ⟨by rfl, fun w hSw => by go_simp⟩) (by assumption) ?_
        try simp only [Act.put, List.setIfInBounds_toArray, List.set_cons_zero, List.set_cons_succ]
        refine wpAnyH_take (i := 9) (oi := { dst := some 60, op := Op.extract (Operand.tmp 51) 1, type := 4, pos := "law.go:165", after := #[{ on := 7, ground := Ground.data }, { on := 10, ground := Ground.gcOnly Departure.lateStores }], guard := none }) (v := .bool b9) rfl (by kernel_rfl) (by kernel_rfl) (by kernel_rfl) (fun _ _ _ h => h) (Or.inl ⟨by rfl, fun w hSw => by go_simp⟩) (by assumption) ?_
        try simp only [Act.put, List.setIfInBounds_toArray, List.set_cons_zero, List.set_cons_succ]
        refine wpAnyH_ready (rs := [10]) (by kernel_rfl) (by simp) ?_
        refine AllReadyH.cons (o := { dst := none, op := Op.store 35 (Operand.tmp 8) (Operand.tmp 59), type := 0, pos := "law.go:165", after := #[{ on := 8, ground := Ground.data }, { on := 6, ground := Ground.chain }, { on := 0, ground := Ground.phase }, { on := 1, ground := Ground.phase }, { on := 2, ground := Ground.phase }, { on := 3, ground := Ground.phase }, { on := 4, ground := Ground.phase }, { on := 5, ground := Ground.phase }, { on := 6, ground := Ground.phase }, { on := 7, ground := Ground.phase }, { on := 8, ground := Ground.phase }, { on := 9, ground := Ground.textOnly Departure.lateStores }], guard := none }) rfl (fun K hK => ?_) AllReadyH.nil
        have zz := row7 H9.bx
        have t0 := zz.1
        have t1 := zz.2.1
        have t2 := zz.2.2.1
        have t3 := zz.2.2.2.1
        have t4 := zz.2.2.2.2.1
        have t5 := zz.2.2.2.2.2.1
        have t6 := zz.2.2.2.2.2.2.1
        have tf := zz.2.2.2.2.2.2.2
        clear zz
        have B10 := put7_both H9
        clear H9
        go_simp
        refine hK.out _ _ (B10.be) (fun hHeld => ?_)
        clear hK K
        try simp only [Act.put, List.setIfInBounds_toArray, List.set_cons_zero, List.set_cons_succ]
        refine wpAnyH_done (by kernel_rfl) ?_ _
        try unfold NoPanic
        have hs9 := hD9.small (show d.K % 12 ≠ 10 by omega)
        have hN9 : ∀ p ∈ m9.now, T9 p.2 = .file := by
          obtain ⟨⟨nv, sv, mv, nn, ns, RV⟩, _⟩ := B10.rp
          exact RV.lnow
        obtain ⟨f9, hsim9⟩ := hD9.sim h9 HU.out.1 hFi IX.good hF9 hN9
        have hS9 : StopAt W _ q g (k + 1) := ⟨_, _, _, _, f9, B10, doX_inv IX d.K d.A d.B d.N d.p (by omega), by omega, hs9.2.trans HR.out, hsim9, doX_names HU.out.2 d.K d.A d.B d.N d.p h9⟩
        clear B10 hs9 hN9 hsim9
        go_wp2
        go_roundw
        case rel => exact ⟨k + 1, by omega, by go_num, hS9⟩
        case measure => simp [intOf]; omega
      · have hcells := act5 hd hb0 BT.be
        obtain ⟨y0, y1, y2, y3, y4⟩ := hcells
        have h9' : ¬ (d.K : Int) % 12 < 9 := by omega
        go_wp2
        go_roundw
        case rel => exact ⟨k + 1, by omega, by go_num, T, m, _, x, f, BT, IX.mono, by omega, hr, hsim, hnm⟩
        case measure => simp [intOf]; omega
    · obtain rfl : k = len0 := by omega
      obtain ⟨T, m, cs, x, f, BT, IX, hm, hr, hsim, hnm⟩ := S
      obtain ⟨A1, n1, c1, A2, n2, c2, A3, n3, c3, rm, lf, of, dn, ecs⟩ := BT.rx.form5
      injection ecs with ecs
      subst ecs
      have c19 := same_any wr T (mkg T g) q m _ x f k BT.rp BT.rx hsim IX (by omega) (by omega) hnm.none (fun p hp => (hnm p hp).2)
      obtain ⟨z0', z1, z2, z3, z4, z5, z6, -⟩ := row7 BT.bx
      have HST : Hid (∀ w', Below wr.heap.size wr w' → StandsAt W w' q m) := fun w' hw => (StandsAt.mk ⟨T, BT.rp, BT.lo⟩ BT.be).below hw
      have HMD := Lib.hid (And.intro hm hr)
      obtain ⟨n1', rfl⟩ : ∃ j : Nat, a1 = j := ⟨a1.toNat, by omega⟩
      obtain ⟨r, hrr⟩ : ∃ r, r = n1' % 5 := ⟨_, rfl⟩
      have hr5 : r < 5 := by omega
      have hr1 : (n1' : Int).tmod 5 = (r : Int) := by rw [Int.tmod_eq_emod_of_nonneg (by omega)]; omega
      have hr2 : (n1' : Int) % 5 = (r : Int) := by omega
      have HLV := Lib.hid hsim.live
      clear BT IX hm hr hsim hnm hrr hlt hk
      go_upto_region 17 with (first
        | (go_at_call 19; (with_reducible refine c19.mono ?_); rintro e w9 ⟨rfl, B9⟩; have HS9 := Lib.hid (HST.out _ B9); clear B9 c19)
        | (go_at_call 20; (with_reducible refine (st_arm HS9.out (r : Int) (by omega)).mono ?_); rintro e w10 ⟨rfl, S10⟩; have HS10 := Lib.hid S10; clear S10))
      clear z0' z1 z2 z3 z4 z5 z6
      have hA0 : Armed (m.arm (r : Int)) (r : Int) := ⟨by show decide (0 ≤ (r : Int)) = true; simp, rfl, HLV.out.2⟩
      go_wp2
      go_loopw [12] (fun i wr => ∃ j : Nat, j ≤ r ∧ i = .int .i64 j ∧ Hid (∃ m', StandsAt W wr q m' ∧ Armed m' ((r : Int) - j) ∧ m'.done ≤ 20 + j ∧ m'.room = 300)) (fun i _ => r - (intOf i).toNat)
      case atStart => exact ⟨0, Nat.zero_le _, rfl, _, HS10.out, by simpa using hA0, (by show m.done ≤ _; have := HMD.out.1; omega), HMD.out.2⟩
      case round =>
        obtain ⟨j, hj, rfl, HJ⟩ := hrel
        clear hA0
        obtain ⟨m', HSm, HAm, hdm, hrm⟩ := HJ.out
        by_cases hlt : j < r
        · have hlt' : (j : Int) < r := by omega
          have hk0 := HAm.names (by omega)
          have c14 := st_names HSm (by omega)
          rw [hk0.1] at c14
          have HK := Lib.hid hk0
          have HD := Lib.hid (And.intro hdm hrm)
          clear HSm HAm hdm hrm HJ hk0
          go_wp2_with (go_at_call 14; (with_reducible refine c14.mono ?_); rintro e w11 ⟨rfl, S11⟩; have HS11 := Lib.hid S11; clear S11 c14)
          go_roundw
          case rel => exact ⟨j + 1, by omega, by go_num, _, HS11.out, by have := HK.out.2.1; rw [show (r : Int) - ((j + 1 : Nat) : Int) = (r : Int) - j - 1 by omega]; exact this, by have := HK.out.2.2.1; have := HD.out.1; omega, by have := HK.out.2.2.2; have := HD.out.2; omega⟩
          case measure => simp [intOf]; omega
        · obtain rfl : j = r := by omega
          rw [Int.sub_self] at HAm
          have hk0 := HAm.stops
          have c14 := st_names HSm (by omega)
          have c21 := st_done HSm
          rw [hk0.1] at c14
          obtain ⟨m1, hm1⟩ : ∃ m1, m1 = m'.names := ⟨_, rfl⟩
          rw [← hm1] at c14 hk0
          obtain ⟨nd, hnd⟩ : ∃ n, n = m'.done := ⟨_, rfl⟩
          rw [← hnd] at c21 hk0
          have HK := Lib.hid (And.intro hk0.2.1 (And.intro (show m1.done ≤ 1000 by have := hk0.2.2.1; omega) (And.intro (show -1000000000 ≤ m1.room by have := hk0.2.2.2; omega) hk0.2.2.1)))
          have hmf := hk0.2.1
          have HBX := Lib.hid HSm.be
          have y4 : wr.cell? ⟨w.heap.size, 4, none⟩ = some (.slice x2.Ap lp x2.cp) := (HSm.be.cell (p := ⟨w.heap.size, 4, none⟩) (Array.getElem?_eq_some_iff.1 HN0.out.1).1).trans (row5 HN0.out.1).2.2.2.2
          clear HSm HAm hdm hrm HJ hk0 hm1 hnd
          go_upto_region 25 with (first
            | (go_at_call 21; (with_reducible refine c21.mono ?_); rintro e w12 ⟨rfl, rfl⟩; clear c21)
            | (go_at_call 14; (with_reducible refine c14.mono ?_); rintro e w13 ⟨rfl, S13⟩; have HX := Lib.hid S13; have y4 := (S13.be.cell (p := ⟨w.heap.size, 4, none⟩) (Array.getElem?_eq_some_iff.1 HN0.out.1).1).trans (row5 HN0.out.1).2.2.2.2; have c22 := st_on S13; rw [hmf] at c22; clear S13 c14)
            | (go_at_call 22; (with_reducible refine c22.mono ?_); rintro e w14 ⟨rfl, rfl⟩; clear c22)
            | (go_at_call 12; (with_reducible refine (dead_append HX.out HK.out.1 HK.out.2.1 HK.out.2.2.1 ⟨#[97]⟩ [97] rfl (by decide) x2.p x2.Ap x2.cp lp HLP.out HV.out.rd HV.out.lt HV.out.hAp (by have := H60.out; omega)).mono ?_); rintro e w15 ⟨rfl, S15⟩; have HX := Lib.hid S15; clear S15)
            | (go_at_call 13; (with_reducible refine (dead_sync HX.out HK.out.1 HK.out.2.1 ⟨#[97]⟩ [97] rfl (by decide)).mono ?_); rintro e w16 ⟨rfl, S15⟩; have HX := Lib.hid S15; clear S15)
            | (go_at_call 23; (with_reducible refine (dead_delete HX.out HK.out.1 HK.out.2.1 ⟨#[97]⟩ [97] rfl (by decide)).mono ?_); rintro e w17 ⟨rfl, S15⟩; have HX := Lib.hid S15; clear S15)
            | (go_at_call 11; (with_reducible refine (dead_create HX.out HK.out.1 HK.out.2.1 ⟨#[97]⟩ [97] rfl (by decide) (by decide)).mono ?_); rintro e w18 ⟨rfl, S15⟩; have HX := Lib.hid S15; clear S15)
            | (go_at_call 24; (with_reducible refine (dead_rename HX.out HK.out.1 HK.out.2.1 ⟨#[97]⟩ ⟨#[98]⟩ [97] [98] rfl rfl (by decide) (by decide) (by decide)).mono ?_); rintro e w19 ⟨rfl, S15⟩; have HX := Lib.hid S15; clear S15)
            | (go_at_call 25; (with_reducible refine (dead_cut HX.out HK.out.1 HK.out.2.1 ⟨#[97]⟩ [97] rfl (by decide) 0 (by decide)).mono ?_); rintro e w20 ⟨rfl, S15⟩; have HX := Lib.hid S15; have c21 := st_done S15; rw [HK.out.2.2.2] at c21; clear S15))
          go_wp2_with (first
            | (go_at_call 17; (with_reducible refine (st_fall HX.out HK.out.2.1 0 0).mono ?_); rintro e w21 ⟨rfl, S21⟩; have c22 := st_on S21; have c14 := st_names S21 (show (m1.fall 0 0).done ≤ 1000 from HK.out.2.1); rw [(fall_live m1 0 0).1] at c22; rw [(fall_live m1 0 0).2.1] at c14; clear S21)
            | (go_at_call 22; (with_reducible refine c22.mono ?_); rintro e w22 ⟨rfl, rfl⟩; clear c22)
            | (go_at_call 14; (with_reducible refine c14.mono ?_); rintro e w23 ⟨rfl, S23⟩; have HE := Lib.hid S23.be; clear S23 c14))
          go_ret
          exact ⟨rfl, HN0.out.2.trans (HE.out.mono HN0.out.2.size)⟩

set_option maxRecDepth 100000 in
theorem lifted (os : Os) (started : os.Started) (H : Type) (enc : TypeId × Value → H) :
    ReturnsInHanded {} Try.checked os 4 .any (Rows.shelfStopsSpec.pre6 enc Try.prog Try.f4 Rows.shelfStopsRow.domain false) (Rows.shelfStopsSpec.post enc Try.prog Try.f4 false true false false) := by
  refine returnsInHanded_of_change (C := Try.checked) own started (by kernel_rfl) Try.func4
    (ChangeSpec.witness6 (enc := enc) (C := Try.checked) false ⟨#[], #[.slice none 0 0, .int .u8 0, .agg #[.int .u8 0, .int .u8 0, .int .u8 0, .int .i64 0, .slice none 0 0]], []⟩ 8 (by kernel_rfl) (by kernel_rfl) (by kernel_rfl) (by kernel_rfl)) ?_
  intro W base args ds gs before hval0 hW hcnd _
  have hval : ∀ (j : Nat) t v, Try.f4.params[j]? = some t → args[j]? = some v → Value.okWide Try.prog W .any base t v := hval0
  have hW' := hW
  obtain ⟨p, q, hA0, hV, rfl, hfz, hnd⟩ := hW
  have hA : DataW.TrodAll enc Try.prog W 0 (fun _ => true) true Try.f4.params.toList args.toList ds p := hA0
  rw [Try.params4] at hA hval
  obtain ⟨v0, vs0, d0, ds0, p0, q0, hargs, rfl, rfl, h0, r0⟩ := trodAll_cons hA
  obtain ⟨v1, vs1, d1, ds1, p1, q1, rfl, rfl, rfl, h1, r1⟩ := trodAll_cons r0
  obtain ⟨v2, vs2, d2, ds2, p2, q2, rfl, rfl, rfl, h2, r2⟩ := trodAll_cons r1
  obtain ⟨rfl, rfl, rfl⟩ := trodAll_nil r2
  obtain rfl : args = #[v0, v1, v2] := by cases args; simp_all
  obtain ⟨rfl, rfl⟩ := trodVars_none hV
  obtain ⟨a0, len0, cap0, rfl⟩ := okWide_slice Try.underlying23 (hval 0 23 v0 rfl rfl)
  have k0 := h0
  have lt0 : ∀ x ∈ p0, x.block < W.heap.size := by obtain ⟨m, hm⟩ := k0; exact DataW.trod_lt m _ _ _ hm
  obtain ⟨z0, w0⟩ : ∃ zs, IsActs W a0 len0 cap0 zs := by
    obtain ⟨fuel, hf⟩ := h0
    obtain ⟨a, l, c, ds, hcs, hds⟩ := acts_of hf
    simp [Value.cells] at hcs
    obtain ⟨rfl, rfl, rfl⟩ := hcs
    exact ⟨ds, hds⟩
  obtain ⟨a1, rfl, rfl, rfl, w1⟩ := open_int Try.underlying5 (hval 1 5 v1 rfl rfl) h1
  have k2 := h2
  have lt2 : ∀ x ∈ p2, x.block < W.heap.size := by obtain ⟨m, hm⟩ := k2; exact DataW.trod_lt m _ _ _ hm
  obtain ⟨x2, w2, rfl⟩ := actd_val (hval 2 38 v2 rfl rfl) h2
  clear hA0 hval0
  refine (walk a0 len0 cap0 z0 a1 x2 W w0 w1 w2).mono fun e W' ⟨he, bel⟩ => ?_
  subst he
  exact ⟨_, rfl, _, _, _, [], _, [], hW', trodAll_mk1 (shut_bool Try.underlying4 _), (trodAll_cons_mk (Below.trod laidOut (by kernel_rfl) (of_decide_eq_true (by kernel_rfl)) k0 bel lt0) (trodAll_cons_mk (shut_int Try.underlying5 w1) (trodAll_cons_mk (Below.trod laidOut (by kernel_rfl) (of_decide_eq_true (by kernel_rfl)) k2 bel lt2) trodAll_mk0))), rfl, bel.frame _, fun h => by cases h⟩

theorem over : Rows.shelfStopsRow.holds Try.pinned (OpenSpec.ofChange Rows.shelfStopsSpec) :=
  OpenClaim.holds_of_wide 4 Try.f4 rfl rfl rfl rfl rfl rfl rfl ⟨rfl, rfl, rfl, rfl, rfl⟩ rfl rfl rfl rfl rfl (by kernel_rfl) Try.func4 (by kernel_rfl)
    (of_decide_eq_true (by kernel_rfl)) (by unfold Func.isWrapper; first | (rw [if_pos (by decide +kernel)]; kernel_rfl) | (rw [if_neg (by decide +kernel)]; exact ⟨rfl, rfl⟩))
    (fun os started H enc _ => lifted os started H enc)

theorem proved : Rows.ShelfStopsSaid := over
#print axioms proved
end Go.Proofs.Ytkalgonkaoiapaa.shelfStops
