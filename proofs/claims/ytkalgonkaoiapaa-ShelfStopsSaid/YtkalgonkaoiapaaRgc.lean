/- Acts that came in: a slice of them, read out of memory. What is safe stays, act by act. Nothing of the program. The law's own beginning: a file, its bytes and its name safe. Nothing of the program. Both shelves between two acts of a law. Nothing of the program but the law's own do. -/
import Derived.Test.YtkalgonkaoiapaaAww
import Derived.Deep.Fields
import Derived.OpenShut
import Derived.Test.YtkalgonkaoiapaaRfw
import Derived.Test.YtkalgonkaoiapaaKpm
namespace Go.Proofs.Ytkalgonkaoiapaa.Shf
open Go.ChangeShapes Go.WideShapes Go.ChangeAt Go.RowKit

/-- An act. -/
structure ActD where
  K : Nat
  A : Nat
  B : Nat
  N : Int
  p : S
  Ap : Option Addr
  cp : Nat
instance : Inhabited ActD := ⟨⟨0, 0, 0, 0, [], none, 0⟩⟩
/-- Where it stands, and what is told of it. -/
structure ActAt (w : World) (b o : Nat) (d : ActD) : Prop where
  k0 : w.cell? ⟨b, o, none⟩ = some (.int .u8 (d.K : Int))
  k1 : w.cell? ⟨b, o + 1, none⟩ = some (.int .u8 (d.A : Int))
  k2 : w.cell? ⟨b, o + 2, none⟩ = some (.int .u8 (d.B : Int))
  k3 : w.cell? ⟨b, o + 3, none⟩ = some (.int .i64 d.N)
  k4 : w.cell? ⟨b, o + 4, none⟩ = some (.slice d.Ap d.p.length d.cp)
  hK : d.K < 256
  hA : d.A < 256
  hB : d.B < 256
  hN : (Lit.int .i64 d.N).wf = true
  hAp : d.Ap = none → d.cp = 0
  hcp : d.p.length ≤ d.cp
  hm : d.cp ≤ maxLen
  rd : Rd w d.Ap d.p
  lt : 0 < d.p.length → ∀ ad, d.Ap = some ad → ad.block < w.heap.size
theorem add_zero' (b o i : Nat) : (⟨b, o, none⟩ : Addr).add i = ⟨b, o + i, none⟩ := by
  unfold Addr.add
  split
  · rename_i h; subst h; rfl
  · rfl
theorem row_bytes {w : World} {ad : Addr} {len cap : Nat} {zs : List Int} (hl : len ≤ cap) (hz : zs.length = cap) (hc : ∀ i, i < zs.length → w.cell? (ad.add i) = some (.int .u8 (zs.getD i 0))) (hw : ∀ n ∈ zs, (Lit.int .u8 n).wf = true) :
    ∃ l : S, l.length = len ∧ Rd w (some ad) l ∧ (0 < len → ad.block < w.heap.size) := by
  refine ⟨(zs.take len).map fun z => UInt8.ofNat z.toNat, by simp; omega, fun h0 => ⟨ad, rfl, fun j hj => ?_⟩, fun h0 => ?_⟩
  · have hj' : j < len := by simp at hj; omega
    have hzj : j < zs.length := by omega
    rw [hc j hzj]
    have hb := bounds_u8 (hw (zs.getD j 0) (by rw [List.getD_eq_getElem?_getD, List.getElem?_eq_getElem hzj]; exact List.getElem_mem hzj))
    have e : ((zs.take len).map fun z => UInt8.ofNat z.toNat)[j] = UInt8.ofNat (zs.getD j 0).toNat := by
      simp [List.getD_eq_getElem?_getD, List.getElem?_eq_getElem hzj]
    rw [e]
    generalize zs.getD j 0 = z at *
    unfold b8
    have e2 : (UInt8.ofNat z.toNat).toNat = z.toNat := by rw [UInt8.toNat_ofNat']; exact Nat.mod_eq_of_lt (by omega)
    rw [e2, Int.toNat_of_nonneg hb.1]
  · have h := hc 0 (by omega)
    have := block_lt_of_cell h
    unfold Addr.add at this
    simpa using this
theorem five {α : Type} (cs : List α) (h : cs.length = 5) : ∃ v0 v1 v2 v3 v4, cs = [v0, v1, v2, v3, v4] := by
  rcases cs with _ | ⟨v0, _ | ⟨v1, _ | ⟨v2, _ | ⟨v3, _ | ⟨v4, _ | ⟨v5, cs⟩⟩⟩⟩⟩⟩
  · simp at h
  · simp at h
  · simp at h
  · simp at h
  · simp at h
  · exact ⟨v0, v1, v2, v3, v4, rfl⟩
  · simp at h
theorem cells38 : Try.prog.cellsOf 38 = 5 := by kernel_rfl
theorem cells5 : Try.prog.cellsOf 5 = 1 := by kernel_rfl
theorem act_of {H : Type} {enc : TypeId × Value → H} {w : World} {base n b o : Nat} {cs : List Value} {x : DataW H × List MemPlace} (h : DataW.trod enc Try.prog w base (fun _ => true) true n 38 cs = some x)
    (hcell : ∀ j, j < 5 → w.cell? ⟨b, o + j, none⟩ = cs[j]?) (hs : ∃ fs, Try.prog.underlying 38 = some (.struct fs) ∧ fs.size = 5 ∧ ∀ i, i < 5 → ∃ f, fs[i]? = some f ∧ f.offset = i ∧ Try.prog.cellsOf f.type = 1 ∧ f.type = [5, 5, 5, 3, 22].getD i 0) : ∃ d : ActD, ActAt w b o d := by
  obtain ⟨fs, hu, hsz, hf⟩ := hs
  obtain ⟨xs, n', _, _, hlen, hxl, hfld⟩ := DataW.trod_struct hu h
  have hl5 : cs.length = 5 := hlen.trans cells38
  obtain ⟨v0, v1, v2, v3, v4, rfl⟩ : ∃ v0 v1 v2 v3 v4, cs = [v0, v1, v2, v3, v4] := by
    exact five cs hl5
  have g : ∀ i (hi : i < 5), ∃ y, DataW.trod enc Try.prog w base (fun _ => true) true n' ([5, 5, 5, 3, 22].getD i 0) (([v0, v1, v2, v3, v4].drop i).take 1) = some y := fun i hi => by
    obtain ⟨f, h1, h2, h3, h4⟩ := hf i hi
    have := hfld i f h1
    rw [h2, h3, h4] at this
    exact ⟨_, this.trans (List.getElem?_eq_getElem (by omega))⟩
  obtain ⟨y0, g0⟩ := g 0 (by decide)
  obtain ⟨y1, g1⟩ := g 1 (by decide)
  obtain ⟨y2, g2⟩ := g 2 (by decide)
  obtain ⟨y3, g3⟩ := g 3 (by decide)
  obtain ⟨y4, g4⟩ := g 4 (by decide)
  obtain ⟨K, e0, _, w0⟩ := DataW.trod_int (t := 5) Try.underlying5 g0
  obtain ⟨A, e1, _, w1⟩ := DataW.trod_int (t := 5) Try.underlying5 g1
  obtain ⟨B, e2, _, w2⟩ := DataW.trod_int (t := 5) Try.underlying5 g2
  obtain ⟨N, e3, _, w3⟩ := DataW.trod_int (t := 3) Try.underlying3 g3
  have f0 : v0 = .int .u8 K := by simpa using e0
  have f1 : v1 = .int .u8 A := by simpa using e1
  have f2 : v2 = .int .u8 B := by simpa using e2
  have f3 : v3 = .int .i64 N := by simpa using e3
  subst f0 f1 f2 f3
  have b0 := bounds_u8 w0
  have b1 := bounds_u8 w1
  have b2 := bounds_u8 w2
  obtain ⟨K, rfl⟩ := Int.eq_ofNat_of_zero_le b0.1
  obtain ⟨A, rfl⟩ := Int.eq_ofNat_of_zero_le b1.1
  obtain ⟨B, rfl⟩ := Int.eq_ofNat_of_zero_le b2.1
  have hK : K < 256 := by omega
  have hA : A < 256 := by omega
  have hB : B < 256 := by omega
  have c0 := hcell 0 (by decide)
  have c1 := hcell 1 (by decide)
  have c2 := hcell 2 (by decide)
  have c3 := hcell 3 (by decide)
  have c4 := hcell 4 (by decide)
  simp only [Nat.add_zero, List.getElem?_cons_zero, List.getElem?_cons_succ] at c0 c1 c2 c3 c4
  rcases open_ints (t := 22) Try.underlying22 Try.underlying5 cells5 g4 with ⟨e4, _⟩ | ⟨ad, len, cap, zs, e4, _, hl, hm, hz, _, hc, hw⟩
  · have f4 : v4 = .slice none 0 0 := by simpa using e4
    subst f4
    exact ⟨⟨K, A, B, N, [], none, 0⟩, c0, c1, c2, c3, c4, hK, hA, hB, w3, fun _ => rfl, Nat.le_refl _, Nat.zero_le _, fun h => by simp at h, fun h => by simp at h⟩
  · have f4 : v4 = .slice (some ad) len cap := by simpa using e4
    subst f4
    obtain ⟨l, hl1, hl2, hl3⟩ := row_bytes hl (by simpa using hz) hc hw
    subst hl1
    exact ⟨⟨K, A, B, N, l, some ad, cap⟩, c0, c1, c2, c3, c4, hK, hA, hB, w3, (fun h => by cases h), hl, hm, hl2, fun h0 a ha => by injection ha with ha; subst ha; exact hl3 h0⟩
theorem struct38 : ∃ fs, Try.prog.underlying 38 = some (.struct fs) ∧ fs.size = 5 ∧ ∀ i, i < 5 → ∃ f, fs[i]? = some f ∧ f.offset = i ∧ Try.prog.cellsOf f.type = 1 ∧ f.type = [5, 5, 5, 3, 22].getD i 0 := by
  refine ⟨_, Try.underlying38, rfl, fun i hi => ?_⟩
  have h : i = 0 ∨ i = 1 ∨ i = 2 ∨ i = 3 ∨ i = 4 := by omega
  rcases h with rfl | rfl | rfl | rfl | rfl
  all_goals exact ⟨_, rfl, rfl, by kernel_rfl, rfl⟩
/-- What the walk is told of a slice of acts that came in. -/
def IsActs (w : World) (a : Option Addr) (len cap : Nat) (ds : List ActD) : Prop :=
  len = ds.length ∧ len ≤ cap ∧ cap ≤ maxLen ∧ ∀ k (hk : k < ds.length), ∃ b o, a = some ⟨b, o, none⟩ ∧ b < w.heap.size ∧ ActAt w b (o + k * 5) ds[k]
theorem acts_of {H : Type} {enc : TypeId × Value → H} {w : World} {base fuel : Nat} {cs : List Value} {x : DataW H × List MemPlace} (h : DataW.trod enc Try.prog w base (fun _ => true) true fuel 23 cs = some x) :
    ∃ a len cap ds, cs = [.slice a len cap] ∧ IsActs w a len cap ds := by
  rcases Go.Deep.open_slice Try.underlying23 h with ⟨rfl, _⟩ | ⟨a, len, cap, m, n, D, Pl, rfl, _, hl, hm, hmm, _, hel⟩
  · exact ⟨none, 0, 0, [], rfl, rfl, Nat.le_refl _, Nat.zero_le _, fun k hk => by simp at hk⟩
  have hC := cells38
  generalize Try.prog.cellsOf 38 = c at hel hC
  subst hC
  have hmc : m = cap := by simpa using hmm
  subst hmc
  have he : ∀ i, i < len → ∃ d : ActD, ∃ b o, a = ⟨b, o, none⟩ ∧ b < w.heap.size ∧ ActAt w b (o + i * 5) d := fun i hi => by
    have hsp : a.spot = none := by
      obtain ⟨cs', h1, _⟩ := hel 0 (by omega)
      obtain ⟨_, h5, hc⟩ := World.cells?_some h1
      have h0 := hc 0 (by decide)
      rw [List.getElem?_eq_getElem (show 0 < cs'.length by omega)] at h0
      have e0 : ∀ a : Addr, a.add 0 = a := fun a => by unfold Addr.add; rw [if_pos rfl]
      have e : (a.add (0 * 5)).add 0 = a := by rw [Nat.zero_mul, e0, e0]
      have := World.cell?_spot h0
      rw [e] at this
      exact this
    obtain ⟨cs', h1, h2⟩ := hel i (by omega)
    obtain ⟨_, h5, hc⟩ := World.cells?_some h1
    have h0 := hc 0 (by decide)
    obtain ⟨b, o, sp⟩ := a
    have hsp : sp = none := hsp
    subst hsp
    rw [List.getElem?_eq_getElem (show 0 < cs'.length by omega)] at h0
    have hb := block_lt_of_cell h0
    rw [add_zero', add_zero'] at hb
    obtain ⟨d, hd⟩ := act_of (b := b) (o := o + i * 5) h2 (fun j hj => by have := hc j hj; rwa [add_zero', add_zero'] at this) struct38
    exact ⟨d, b, o, rfl, hb, hd⟩
  obtain ⟨F, hF⟩ := Go.Deep.choose_lt he
  refine ⟨some a, len, m, (List.range len).map F, rfl, by simp, hl, hm, fun k hk => ?_⟩
  have hk' : k < len := by simpa using hk
  obtain ⟨b, o, e, hb, hA⟩ := hF k hk'
  have e2 : ((List.range len).map F)[k] = F k := by simp
  rw [e2]
  exact ⟨b, o, by rw [e], hb, hA⟩
end Go.Proofs.Ytkalgonkaoiapaa.Shf
namespace Go.Proofs.Ytkalgonkaoiapaa.Shf
open Go.ChangeShapes Go.WideShapes Go.ChangeAt Go.RowKit

def zN : S := [122]
theorem nameOf_ne (n : Nat) : nameOf n ≠ zN := by
  unfold nameOf zN
  split <;> decide
/-- One name, and no other, has that file. -/
def Has (l : List (S × Nat)) (b : Nat) : Prop := get l zN = some b ∧ ∀ s, get l s = some b → s = zN
def Vok (v : Mv) (b : Nat) : Prop := v.fr ≠ zN ∧ (v.f = none ∨ v.«to» ≠ zN) ∧ v.f ≠ some b
theorem Has.on {l : List (S × Nat)} {b : Nat} (h : Has l b) {v : Mv} (hv : Vok v b) : Has (v.on l) b := by
  obtain ⟨h1, h2⟩ := h
  obtain ⟨v1, v2, v3⟩ := hv
  obtain ⟨fr, tt, f⟩ := v
  simp only at v1 v2 v3
  unfold Mv.on
  cases f with
  | none =>
    show Has (wo l fr) b
    refine ⟨by rw [get_wo, if_neg (fun h => v1 h.symm)]; exact h1, fun s hs => ?_⟩
    rw [get_wo] at hs
    split at hs
    · cases hs
    · exact h2 s hs
  | some c =>
    have hc : c ≠ b := fun h => v3 (by rw [h])
    have ht : tt ≠ zN := by rcases v2 with h | h
                            · cases h
                            · exact h
    show Has (wi (wo l fr) tt c) b
    refine ⟨by rw [get_wi, if_neg (fun h => ht h.symm), get_wo, if_neg (fun h => v1 h.symm)]; exact h1, fun s hs => ?_⟩
    rw [get_wi] at hs
    split at hs
    · injection hs with hs; exact absurd hs hc
    · rw [get_wo] at hs
      split at hs
      · cases hs
      · exact h2 s hs
theorem Has.ages {b : Nat} (vs : List Mv) : ∀ {l : List (S × Nat)}, Has l b → (∀ v ∈ vs, Vok v b) → Has (ages l vs) b := by
  induction vs with
  | nil => intro l h _; exact h
  | cons v vs ih => intro l h hv; exact ih (h.on (hv v (by simp))) (fun u hu => hv u (by simp [hu]))
/-- It is safe. -/
structure Kept (m : M) (b : Nat) (p : S) : Prop where
  safe : Has m.safe b
  mov : ∀ v ∈ m.moves, Vok v b
  fl : m.fl b = (p, p.length)
  eq : m.now = ages m.safe m.moves
theorem Kept.now {m : M} {b : Nat} {p : S} (h : Kept m b p) : Has m.now b := by rw [h.eq]; exact h.safe.ages _ h.mov
theorem Kept.act {m : M} {b : Nat} {p : S} (h : Kept m b p) : Kept m.act b p := by
  obtain ⟨e1, e2, e3, e4, _⟩ := act_now m
  exact ⟨by rw [e2]; exact h.safe, by rw [e3]; exact h.mov, by rw [e4]; exact h.fl, by rw [e1, e2, e3]; exact h.eq⟩
theorem onF_get {m : M} {s : S} {c : Nat} (h : m.onF s = some c) : get m.now s = some c := by
  unfold M.onF at h
  split at h
  · cases h
  · exact h
theorem Kept.other {m : M} {b : Nat} {p : S} (h : Kept m b p) {s : S} {c : Nat} (hs : s ≠ zN) (hg : get m.now s = some c) : c ≠ b := fun e => hs (h.now.2 s (by rw [hg, e]))
theorem ages_snoc (l : List (S × Nat)) (vs : List Mv) (v : Mv) : ages l (vs ++ [v]) = v.on (ages l vs) := by unfold ages; rw [List.foldl_append]; rfl
theorem Kept.mv {m : M} {b : Nat} {p : S} (h : Kept m b p) {v : Mv} (hv : Vok v b) : Kept (m.mv v) b p :=
  ⟨h.safe, fun u hu => by
    rcases List.mem_append.1 hu with hu | hu
    · exact h.mov u hu
    · rw [List.mem_singleton] at hu; rw [hu]; exact hv, h.fl, by show v.on m.now = ages m.safe (m.moves ++ [v]); rw [ages_snoc, ← h.eq]⟩
theorem Kept.file {m : M} {b : Nat} {p : S} (h : Kept m b p) {c : Nat} (hc : c ≠ b) (x : S × Nat) : Kept (m.file c x) b p :=
  ⟨h.safe, h.mov, by show (if b = c then x else m.fl b) = _; rw [if_neg (fun e => hc e.symm)]; exact h.fl, h.eq⟩
theorem Kept.lose {m : M} {b : Nat} {p : S} (h : Kept m b p) (s : S) : Kept (m.lose s) b p := by
  unfold M.lose
  split
  · exact h
  · exact ⟨h.safe, h.mov, h.fl, h.eq⟩
theorem Kept.create {m : M} {b : Nat} {p : S} (h : Kept m b p) {s : S} (hs : s ≠ zN) {c : Nat} (hc : c ≠ b) : Kept (m.create s c) b p := by
  unfold M.create
  split
  · exact h
  · split
    · exact h.act
    · split
      · exact h.act
      · exact (h.act.file hc _).mv ⟨by show ([] : S) ≠ zN; decide, .inr hs, by show some c ≠ some b; intro e; injection e with e; exact hc e⟩
theorem Kept.append {m : M} {b : Nat} {p : S} (h : Kept m b p) {s : S} (hs : s ≠ zN) (r : S) : Kept (m.append s r) b p := by
  unfold M.append
  split
  · exact h.act
  · rename_i c hc
    have hne := h.other hs (onF_get hc)
    split
    · exact h.act
    · have a := h.act
      exact ⟨a.safe, a.mov, by show (if b = c then _ else m.fl b) = _; rw [if_neg (fun e => hne e.symm)]; exact h.fl, a.eq⟩
theorem Kept.sync {m : M} {b : Nat} {p : S} (h : Kept m b p) {s : S} (hs : s ≠ zN) : Kept (m.sync s) b p := by
  unfold M.sync
  split
  · exact h.act
  · rename_i c hc
    exact h.act.file (h.other hs (onF_get hc)) _
theorem Kept.names {m : M} {b : Nat} {p : S} (h : Kept m b p) : Kept m.names b p := by
  unfold M.names
  have a := h.act
  split
  · exact a
  · have e := (act_now m).1
    exact ⟨h.safe.ages _ h.mov, fun v hv => by simp at hv, a.fl, by show m.act.now = ages m.safe m.moves; rw [e]; exact h.eq⟩
theorem Kept.rename {m : M} {b : Nat} {p : S} (h : Kept m b p) {s t : S} (hs : s ≠ zN) (ht : t ≠ zN) : Kept (m.rename s t) b p := by
  unfold M.rename
  split
  · exact h
  · split
    · exact h.act
    · rename_i c hc
      have hne := h.other hs (onF_get hc)
      split
      · exact h.act
      · exact (h.act.lose t).mv ⟨hs, .inr ht, by show some c ≠ some b; intro e; injection e with e; exact hne e⟩
theorem Kept.delete {m : M} {b : Nat} {p : S} (h : Kept m b p) {s : S} (hs : s ≠ zN) : Kept (m.delete s) b p := by
  unfold M.delete
  split
  · exact h.act
  · exact (h.act.lose s).mv ⟨hs, .inl rfl, by show none ≠ some b; intro e; cases e⟩
theorem Kept.cut {m : M} {b : Nat} {p : S} (h : Kept m b p) {s : S} (hs : s ≠ zN) (n : Int) : Kept (m.cut s n) b p := by
  unfold M.cut
  split
  · exact h.act
  · rename_i c hc
    have hne := h.other hs (onF_get hc)
    split
    · exact h.act
    · have a := h.act
      exact ⟨a.safe, a.mov, by show (if b = c then _ else m.fl b) = _; rw [if_neg (fun e => hne e.symm)]; exact h.fl, a.eq⟩
theorem Kept.fall {m : M} {b : Nat} {p : S} (h : Kept m b p) (n k : Int) : Kept (m.fall n k) b p := by
  have hh := h.safe.ages (m.moves.take (min n.toNat m.moves.length)) (fun v hv => h.mov v (List.mem_of_mem_take hv))
  refine ⟨hh, fun v hv => by simp [M.fall] at hv, ?_, rfl⟩
  show fallF m.fl _ k b = _
  unfold fallF
  have hl : left (m.fl b) k = p.length := by unfold left; rw [h.fl]; simp
  split
  · rw [hl, h.fl]; simp
  · exact h.fl
theorem DoM.kept {T : Nat → Tag} {m m' : M} {K A B : Nat} {N : Int} {r p : S} {b : Nat} (h : DoM T m K A B N r m') (hk : Kept m b p) (hb : T b = .file) : Kept m' b p := by
  have nA := nameOf_ne A
  have nB := nameOf_ne B
  rcases h with ⟨_, c, hc, rfl⟩ | ⟨_, rfl⟩ | ⟨_, rfl⟩ | ⟨_, rfl⟩ | ⟨_, rfl⟩ | ⟨_, rfl⟩ | ⟨_, rfl⟩ | ⟨_, rfl⟩ | ⟨_, rfl⟩ | ⟨_, rfl⟩
  · exact hk.create nA (fun e => by rw [e, hb] at hc; cases hc)
  · exact hk.append nA _
  · exact hk.sync nA
  · exact hk.names
  · exact hk.rename nA nB
  · exact hk.delete nA
  · exact hk.cut nA _
  · exact ⟨hk.safe, hk.mov, hk.fl, hk.eq⟩
  · exact ⟨hk.safe, hk.mov, hk.fl, hk.eq⟩
  · exact hk.fall _ _
theorem Kept.read {m : M} {b : Nat} {p : S} (h : Kept m b p) (n k : Int) : (m.fall n k).readE zN = 0 ∧ (m.fall n k).readP zN = p := by
  have f := h.fall n k
  unfold M.readE M.readP
  rw [f.now.1]
  exact ⟨rfl, by show ((m.fall n k).fl b).1 = p; rw [f.fl]⟩
end Go.Proofs.Ytkalgonkaoiapaa.Shf
namespace Go.Proofs.Ytkalgonkaoiapaa.Shf
open Go.ChangeShapes Go.WideShapes Go.ChangeAt Go.RowKit

def Z1 (r : Int) (b : Nat) : M := st r [(zN, b)] [] [⟨[], zN, some b⟩] (F1 b) 0 0 1
theorem z1 (r : Int) (b : Nat) : (M.new r).create zN b = Z1 r b ∧ (M.new r).createE zN = 0 := st_create r [] [] [] (fun _ => ([], 0)) 0 0 0 (name := zN) (by decide) rfl b
def Z2 (r : Int) (b : Nat) (p : S) : M := st r [(zN, b)] [] [⟨[], zN, some b⟩] (upd (F1 b) b (p, 0)) p.length 0 2
theorem z2 (r : Int) (b : Nat) (p : S) (h : ¬ ((p.length : Int) > r)) : (Z1 r b).append zN p = Z2 r b p ∧ (Z1 r b).appendE zN p = 0 := by
  have := st_append r [(zN, b)] [] [⟨[], zN, some b⟩] (F1 b) 0 0 1 (name := zN) (p := p) (b := b) rfl (by simpa using h)
  refine ⟨?_, this.2⟩
  have h := this.1
  have e : F1 b b = ([], 0) := by simp [F1, upd]
  rw [e, Nat.zero_add] at h
  exact h
def Z3 (r : Int) (b : Nat) (p : S) : M := st r [(zN, b)] [] [⟨[], zN, some b⟩] (upd (upd (F1 b) b (p, 0)) b (p, p.length)) p.length 0 3
theorem z3 (r : Int) (b : Nat) (p : S) : (Z2 r b p).sync zN = Z3 r b p := by
  have h := st_sync r [(zN, b)] [] [⟨[], zN, some b⟩] (upd (F1 b) b (p, 0)) p.length 0 2 (name := zN) (b := b) rfl
  have e : upd (F1 b) b (p, 0) b = (p, 0) := by simp [upd]
  rw [e] at h
  exact h
def Z4 (r : Int) (b : Nat) (p : S) : M := st r [(zN, b)] [(zN, b)] [] (upd (upd (F1 b) b (p, 0)) b (p, p.length)) p.length 0 4
theorem z4 (r : Int) (b : Nat) (p : S) : (Z3 r b p).names = Z4 r b p ∧ (Z3 r b p).actE = 0 := ⟨st_names r [(zN, b)] [] [⟨[], zN, some b⟩] _ p.length 0 3, rfl⟩
theorem z4_kept (r : Int) (b : Nat) (p : S) : Kept (Z4 r b p) b p := by
  refine ⟨⟨?_, fun s hs => ?_⟩, fun v hv => ?_, ?_, rfl⟩
  · show get [(zN, b)] zN = some b
    simp [get]
  · have hs : get [(zN, b)] s = some b := hs
    unfold get at hs
    split at hs
    · rename_i h; exact h.symm
    · simp [get] at hs
  · have hv : v ∈ ([] : List Mv) := hv
    simp at hv
  · show upd (upd (F1 b) b (p, 0)) b (p, p.length) b = _
    simp [upd]
/-- How many acts were done, and how much room there is. -/
theorem DoM.small {T : Nat → Tag} {m m' : M} {K A B : Nat} {N : Int} {r : S} (h : DoM T m K A B N r m') (hk : K % 12 ≠ 10) : m'.done ≤ m.done + 1 ∧ m'.room = m.room := by
  have a := act_done m
  obtain ⟨_, _, _, _, _, _, ar⟩ := act_now m
  have lo : ∀ (x : M) s, (x.lose s).done = x.done ∧ (x.lose s).room = x.room := fun x s => by unfold M.lose; split <;> exact ⟨rfl, rfl⟩
  rcases h with ⟨_, c, _, rfl⟩ | ⟨_, rfl⟩ | ⟨_, rfl⟩ | ⟨_, rfl⟩ | ⟨_, rfl⟩ | ⟨_, rfl⟩ | ⟨_, rfl⟩ | ⟨_, rfl⟩ | ⟨h, _⟩ | ⟨_, rfl⟩
  · unfold M.create
    split
    · exact ⟨by omega, rfl⟩
    · split
      · exact ⟨a.2.1, ar⟩
      · split
        · exact ⟨a.2.1, ar⟩
        · exact ⟨a.2.1, ar⟩
  · unfold M.append
    split
    · exact ⟨a.2.1, ar⟩
    · split
      · exact ⟨a.2.1, ar⟩
      · exact ⟨a.2.1, ar⟩
  · unfold M.sync
    split
    · exact ⟨a.2.1, ar⟩
    · exact ⟨a.2.1, ar⟩
  · unfold M.names
    split
    · exact ⟨a.2.1, ar⟩
    · exact ⟨a.2.1, ar⟩
  · unfold M.rename
    split
    · exact ⟨by omega, rfl⟩
    · split
      · exact ⟨a.2.1, ar⟩
      · split
        · exact ⟨a.2.1, ar⟩
        · have l := lo m.act (nameOf B)
          exact ⟨by show (m.act.lose _).done ≤ _; rw [l.1]; exact a.2.1, by show (m.act.lose _).room = _; rw [l.2]; exact ar⟩
  · unfold M.delete
    split
    · exact ⟨a.2.1, ar⟩
    · have l := lo m.act (nameOf A)
      exact ⟨by show (m.act.lose _).done ≤ _; rw [l.1]; exact a.2.1, by show (m.act.lose _).room = _; rw [l.2]; exact ar⟩
  · unfold M.cut
    split
    · exact ⟨a.2.1, ar⟩
    · split
      · exact ⟨a.2.1, ar⟩
      · exact ⟨a.2.1, ar⟩
  · exact ⟨by show m.done ≤ _; omega, rfl⟩
  · exact absurd h hk
  · exact ⟨by show m.done ≤ _; omega, rfl⟩
end Go.Proofs.Ytkalgonkaoiapaa.Shf
namespace Go.Proofs.Ytkalgonkaoiapaa.Shf
open Go.ChangeShapes Go.WideShapes Go.ChangeAt Go.RowKit

/-- The other shelf as a value, cell by cell. -/
def XvC (A1 A2 A3 : Option Addr) (n1 c1 n2 c2 n3 c3 : Nat) (room left : Int) (off : Bool) (done : Int) : Array Value := #[.slice A1 n1 c1, .slice A2 n2 c2, .slice A3 n3 c3, .int .i64 room, .int .i64 left, .bool off, .int .i64 done]
structure Both (w wr : World) (T : Nat → Tag) (q g : Nat) (m : M) (cs : Array Value) (x : X) : Prop where
  be : Below w.heap.size w wr
  lo : ∀ b, T b ≠ .none → w.heap.size ≤ b
  rp : Rep wr T q m
  rx : RXE wr (mkg T g) (.agg cs) x
  tg : T g = .none
  gl : w.heap.size ≤ g
  gr : g < wr.heap.size
  bx : wr.heap[g]? = some (.cells cs 35)
/-- The same behind an act, the box not yet written. -/
structure Half (w wr : World) (T : Nat → Tag) (q g : Nat) (m : M) (cs cs' : Array Value) (x : X) : Prop where
  be : Below w.heap.size w wr
  lo : ∀ b, T b ≠ .none → w.heap.size ≤ b
  rp : Rep wr T q m
  rx : RXE wr (mkg T g) (.agg cs') x
  tg : T g = .none
  gl : w.heap.size ≤ g
  gr : g < wr.heap.size
  bx : wr.heap[g]? = some (.cells cs 35)
theorem Both.drew {w wr : World} {T : Nat → Tag} {q g : Nat} {m : M} {cs : Array Value} {x : X} (h : Both w wr T q g m cs x) : Both w wr.drew T q g m cs x :=
  ⟨h.be.drew, h.lo, h.rp.below ((Below.refl _ _).drew), h.rx.keep (Shf.Below.keep ((Below.refl _ _).drew) _), h.tg, h.gl, h.gr, h.bx⟩
theorem both_new {w w6 w7 : World} {T : Nat → Tag} {q : Nat} {m : M} {cs : Array Value} {x : X} (B6 : Below w.heap.size w w6) (lo : ∀ b, T b ≠ .none → w.heap.size ≤ b) (R6 : Rep w6 T q m) (B7 : Below w6.heap.size w6 w7) (RX : RXE w7 T (.agg cs) x) :
    Both w (w7.alloc (.cells cs 35)) T q w7.heap.size m cs x := by
  have Ba : Below w7.heap.size w7 (w7.alloc (.cells cs 35)) := (Below.refl _ _).alloc (Nat.le_refl _) _
  have hs := B7.size
  have R7 := R6.below B7
  have hT : T w7.heap.size = .none := by
    cases e : T w7.heap.size with
    | none => rfl
    | _ =>
      obtain ⟨⟨nv, sv, mv, nn, ns, RV⟩, _⟩ := R7
      exact absurd (RV.old w7.heap.size (by rw [e]; intro h; cases h)) (by omega)
  refine ⟨(B6.trans (B7.mono B6.size)).trans (Ba.mono (Nat.le_trans B6.size hs)), lo, R7.below Ba, ?_, hT, Nat.le_trans B6.size hs, by simp, heap_alloc_new w7 _⟩
  refine RX.keep ⟨Ba.size, fun b hb hn => ⟨Ba.block b hb, ?_⟩⟩
  rw [mkg_of (by omega)]; exact hn
theorem act5 {w wr : World} {b o : Nat} {d : ActD} (h : ActAt w b o d) (hb : b < w.heap.size) (B : Below w.heap.size w wr) :
    wr.cell? ⟨b, o, none⟩ = some (.int .u8 (d.K : Int)) ∧ wr.cell? ⟨b, o + 1, none⟩ = some (.int .u8 (d.A : Int)) ∧ wr.cell? ⟨b, o + 2, none⟩ = some (.int .u8 (d.B : Int)) ∧ wr.cell? ⟨b, o + 3, none⟩ = some (.int .i64 d.N) ∧ wr.cell? ⟨b, o + 4, none⟩ = some (.slice d.Ap d.p.length d.cp) := by
  have c : ∀ i, wr.cell? ⟨b, i, none⟩ = w.cell? ⟨b, i, none⟩ := fun i => B.cell (p := ⟨b, i, none⟩) hb
  exact ⟨(c _).trans h.k0, (c _).trans h.k1, (c _).trans h.k2, (c _).trans h.k3, (c _).trans h.k4⟩
theorem both_do {w wr : World} {T : Nat → Tag} {q g b o : Nat} {m : M} {cs : Array Value} {x : X} {i : Nat} {d : ActD} (h : Both w wr T q g m cs x) (I : x.Inv i) (hi : i ≤ 100) (hd : m.done ≤ 1000) (ha : ActAt w b o d) (h60 : d.p.length ≤ 60) (hroom : -1000000000 ≤ m.room) :
    Calls Try.prog 16 #[.pointer (some ⟨q, 0, none⟩), .agg cs, .agg #[.int .u8 (d.K : Int), .int .u8 (d.A : Int), .int .u8 (d.B : Int), .int .i64 d.N, .slice d.Ap d.p.length d.cp]] wr fun e w' =>
      ∃ T' A1 n1 c1 A2 n2 c2 A3 n3 c3 room left off done m' b', e = .returned (.tuple #[.agg #[.slice A1 n1 c1, .slice A2 n2 c2, .slice A3 n3 c3, .int .i64 room, .int .i64 left, .bool off, .int .i64 done], .bool b']) ∧ DoM T m d.K d.A d.B d.N d.p m' ∧
        Half w w' T' q g m' cs #[.slice A1 n1 c1, .slice A2 n2 c2, .slice A3 n3 c3, .int .i64 room, .int .i64 left, .bool off, .int .i64 done] (doX x d.K d.A d.B d.N d.p) ∧ ∀ b, T b = .file → T' b = .file := by
  have hrd : RdN wr (mkg T g) d.Ap d.p := by
    refine ⟨ha.rd.at (fun ad e h0 => h.be.block _ (ha.lt h0 ad e)), fun h0 ad e => ?_⟩
    have hl := ha.lt h0 ad e
    refine ⟨?_, Nat.lt_of_lt_of_le hl h.be.size⟩
    rw [mkg_of (by have := h.gl; omega)]
    cases e : T ad.block with
    | none => rfl
    | _ => exact absurd (h.lo ad.block (by rw [e]; intro h; cases h)) (by omega)
  refine (do_any wr T q m (.agg cs) x i d.K d.A d.B d.N d.p d.Ap d.cp g h.tg h.gr h.rp h.rx I hi hd ha.hK ha.hA ha.hB ha.hN hrd ha.hAp ha.hcp h60 hroom).mono ?_
  rintro e w' ⟨T', xv', m', b', rfl, hD, R', RX', X'⟩
  obtain ⟨A1, n1, c1, A2, n2, c2, A3, n3, c3, room, left, off, done, rfl⟩ := RX'.form5
  refine ⟨T', A1, n1, c1, A2, n2, c2, A3, n3, c3, room, left, off, done, m', b', rfl, hD, ⟨h.be.trans (X'.below h.be.size h.lo), X'.low h.be.size h.lo R', R', RX', (X'.tags g h.gr).trans h.tg, h.gl, Nat.lt_of_lt_of_le h.gr X'.size, (X'.block g h.gr h.tg).trans h.bx⟩, fun b hb => ?_⟩
  obtain ⟨⟨nv, sv, mv, nn, ns, RV⟩, _⟩ := h.rp
  exact (X'.tags b (RV.old b (by rw [hb]; intro h; cases h))).trans hb
theorem Half.store {w wr w2 : World} {T : Nat → Tag} {q g : Nat} {m : M} {cs cs' : Array Value} {x : X} (h : Half w wr T q g m cs cs' x) (G : wr.grownBy w2 (some g)) (hb : w2.heap[g]? = some (.cells cs' 35)) : Both w w2 T q g m cs' x := by
  refine ⟨h.be.grown G h.be.size (fun k hk => by injection hk with hk; rw [← hk]; exact h.gl), h.lo, h.rp.far (grown_chg G) (fun b hb hg => hb (by rw [hg]; exact h.tg)), h.rx.keep ⟨G.size, fun b hb hn => ?_⟩, h.tg, h.gl, Nat.lt_of_lt_of_le h.gr G.size, hb⟩
  exact ⟨G.block b hb (fun e => (mkg_none hn).1 (by injection e)), hn⟩
theorem put7_both {w wr : World} {T : Nat → Tag} {q g : Nat} {m : M} {x : X} {x0 x1 x2 x3 x4 x5 x6 y0 y1 y2 y3 y4 y5 y6 : Value} (h : Half w wr T q g m #[x0, x1, x2, x3, x4, x5, x6] #[y0, y1, y2, y3, y4, y5, y6] x) :
    Both w (((((((wr.setCell ⟨g, 0, none⟩ y0).setCell ⟨g, 1, none⟩ y1).setCell ⟨g, 2, none⟩ y2).setCell ⟨g, 3, none⟩ y3).setCell ⟨g, 4, none⟩ y4).setCell ⟨g, 5, none⟩ y5).setCell ⟨g, 6, none⟩ y6) T q g m #[y0, y1, y2, y3, y4, y5, y6] x :=
  h.store (set7_grown0 wr g y0 y1 y2 y3 y4 y5 y6) (put7 h.bx y0 y1 y2 y3 y4 y5 y6)
end Go.Proofs.Ytkalgonkaoiapaa.Shf
