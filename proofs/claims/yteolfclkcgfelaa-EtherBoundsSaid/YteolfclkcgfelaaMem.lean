/- Bytes in memory: a slice that reads as bytes, a block that holds bytes. -/
import Derived.Test.YteolfclkcgfelaaRows
import Derived.WalkKit
import Derived.ProofKit
import Derived.OpenShut
import Derived.ShutString
import Derived.WalkLawsBesides
import Derived.Lib.Hide
import Derived.Below
import Derived.Laws.OwnMore
import Derived.Laws.CopyOwn
import Derived.Deep.OwnRows
import Derived.OwnWalk
import Derived.Laws.IdiomStrings
namespace Go.Proofs.Yteolfclkcgfelaa.Coin
open Go.ChangeShapes Go.WideShapes Go.ChangeAt Go.RowKit

def b8 (b : UInt8) : Value := .int .u8 (b.toNat : Int)
/-- A slice's cells, below block B, read as these bytes. -/
def Rd (w : World) (B : Nat) (A : Option Addr) (l : List UInt8) : Prop := 0 < l.length → ∃ ad : Addr, A = some ad ∧ ad.block < B ∧ ∀ j (hj : j < l.length), w.cell? (ad.add j) = some (b8 l[j])
/-- A block that holds just these bytes. -/
def Row (w : World) (g : Nat) (l : List UInt8) : Prop := w.heap[g]? = some (.cells (l.map b8).toArray 5 (0, 0))

theorem block_add (a : Addr) (n : Nat) : (a.add n).block = a.block := by unfold Addr.add; split <;> rfl
theorem add_add (a : Addr) (i j : Nat) : (a.add i).add j = a.add (i + j) := by
  unfold Addr.add
  by_cases hi : i = 0 <;> by_cases hj : j = 0 <;> simp [hi, hj, Nat.add_assoc]
theorem zero_add' (g j : Nat) : (⟨g, 0, none⟩ : Addr).add j = ⟨g, j, none⟩ := by
  unfold Addr.add; split <;> simp_all

theorem Rd.keep {w w' : World} {B : Nat} {A : Option Addr} {l : List UInt8} (h : Rd w B A l) (hk : ∀ p : Addr, p.block < B → w'.cell? p = w.cell? p) : Rd w' B A l := fun h0 => by
  obtain ⟨ad, e, hb, hc⟩ := h h0
  exact ⟨ad, e, hb, fun j hj => (hk _ (by rw [block_add]; exact hb)).trans (hc j hj)⟩
theorem Rd.below {w w' : World} {B B' : Nat} {A : Option Addr} {l : List UInt8} (h : Rd w B A l) (hb : Below B' w w') (hB : B ≤ B') : Rd w' B A l := h.keep fun _ hp => hb.cell (Nat.lt_of_lt_of_le hp hB)
theorem Rd.more {w : World} {B B' : Nat} {A : Option Addr} {l : List UInt8} (h : Rd w B A l) (hB : B ≤ B') : Rd w B' A l := fun h0 => by
  obtain ⟨ad, e, hb, hc⟩ := h h0
  exact ⟨ad, e, Nat.lt_of_lt_of_le hb hB, hc⟩
theorem Rd.nil (w : World) (B : Nat) (A : Option Addr) : Rd w B A [] := fun h => by simp at h
theorem Rd.cut {w : World} {B : Nat} {A : Option Addr} {l : List UInt8} (h : Rd w B A l) (k : Nat) : Rd w B (A.map (·.add k)) (l.drop k) := fun h0 => by
  have hk : k < l.length := by simp at h0; omega
  obtain ⟨ad, rfl, hb, hc⟩ := h (by omega)
  refine ⟨ad.add k, rfl, by rw [block_add]; exact hb, fun j hj => ?_⟩
  rw [add_add, hc (k + j) (by simp at hj; omega)]
  simp
theorem Rd.take {w : World} {B : Nat} {A : Option Addr} {l : List UInt8} (h : Rd w B A l) (k : Nat) : Rd w B A (l.take k) := fun h0 => by
  simp at h0
  obtain ⟨ad, rfl, hb, hc⟩ := h (by omega)
  refine ⟨ad, rfl, hb, fun j hj => ?_⟩
  rw [hc j (by simp at hj; omega)]
  simp
theorem Row.lt {w : World} {g : Nat} {l : List UInt8} (h : Row w g l) : g < w.heap.size := by
  rcases Nat.lt_or_ge g w.heap.size with hlt | hge
  · exact hlt
  · unfold Row at h; rw [Array.getElem?_eq_none hge] at h; cases h
theorem Row.cell {w : World} {g : Nat} {l : List UInt8} (h : Row w g l) (j : Nat) (hj : j < l.length) : w.cell? ⟨g, j, none⟩ = some (b8 l[j]) := by
  rw [cell_of_row w g j _ 5 (0, 0) h]
  simp [hj]
theorem Row.frozen {w : World} {g : Nat} {l : List UInt8} (h : Row w g l) (j : Nat) : w.frozen? ⟨g, j, none⟩ = false := frozen_of_row w g j _ 5 h
theorem Row.rd {w : World} {g : Nat} {l : List UInt8} (h : Row w g l) : Rd w w.heap.size (some ⟨g, 0, none⟩) l := fun _ =>
  ⟨_, rfl, h.lt, fun j hj => by rw [zero_add']; exact h.cell j hj⟩
theorem Row.below {w w' : World} {g B : Nat} {l : List UInt8} (h : Row w g l) (hb : Below B w w') (hg : g < B) : Row w' g l := (hb.block g hg).trans h
theorem Row.set {w : World} {g : Nat} {l : List UInt8} (h : Row w g l) (j : Nat) (b : UInt8) : Row (w.setCell ⟨g, j, none⟩ (b8 b)) g (l.set j b) := by
  unfold Row at h ⊢
  rw [heap_setCell_same w g j _ 5 _ h]
  simp [List.map_set]
theorem Row.new (w : World) (n : Nat) : Row (w.alloc (.cells (madeCells #[.int .u8 0] n) 5)) w.heap.size (List.replicate n 0) := by
  unfold Row
  rw [heap_alloc_new]
  have e : ((List.replicate n (0 : UInt8)).map b8).toArray = madeCells #[.int .u8 0] n := by
    apply Array.toList_inj.1
    rw [toList_madeCells_one]
    simp [b8]
  rw [e]
theorem info5 : (Try.prog.info? 5).map (fun i => (i.zero, i.size, i.bytes)) = some (some (.int .u8 0), 1, 1) := by kernel_rfl
theorem size5 : (Try.prog.info? 5).map (·.size) = some 1 := by kernel_rfl
theorem make_any (n : Nat) (h : n ≤ 1000000) : ∀ w : World, (Instr.makeSlice 37 (.int .i64 (n : Int)) (.int .i64 (n : Int))).run Try.prog w = .ok (.slice (some ⟨w.heap.size, 0, none⟩) n n) (w.alloc (.cells (madeCells #[.int .u8 0] n) 5)) :=
  fun w => run_make_row' (P := Try.prog) 37 5 (.int .u8 0) 1 Try.underlying37 info5 rfl .i64 .i64 n (by omega) (by omega) w
theorem one_b8 (l : List UInt8) : ∀ v ∈ l.map b8, v.oneCell' = true := by
  intro v hv
  obtain ⟨b, _, rfl⟩ := List.mem_map.1 hv
  rfl
theorem Rd.src {w : World} {B : Nat} {A : Option Addr} {l : List UInt8} (h : Rd w B A l) (h0 : 0 < l.length) : ∃ ad, A = some ad ∧ ∀ j v, (l.map b8)[j]? = some v → w.cell? (ad.add j) = some v := by
  obtain ⟨ad, e, _, hc⟩ := h h0
  refine ⟨ad, e, fun j v hv => ?_⟩
  obtain ⟨hj, rfl⟩ := List.getElem?_eq_some_iff.1 hv
  simp at hj
  rw [hc j hj]; simp
theorem b8_ofNat (x : Nat) : b8 (UInt8.ofNat x) = .int .u8 ((x : Int) % 256) := by simp [b8]
theorem b8_small (x : Nat) (h : x < 256) : b8 (UInt8.ofNat x) = .int .u8 (x : Int) := by rw [b8_ofNat]; congr 1; omega
/-- 'copy' into a row of noughts that the call has just made. -/
theorem copy_row {w : World} {ops : Array Oper} {rest : List Oper} {o : Oper} {a : Act} {Q : Exit → Act → World → Prop} (hgd : o.guard = none) (d s : Operand)
    (ho : o.op = .call { callee := .builtin .copy, args := #[d, s], argTypes := #[37, 37] }) (g L m cap : Nat) (A : Option Addr) (hd : a.eval d = .slice (some ⟨g, 0, none⟩) L L) (hs : a.eval s = .slice A m cap)
    (l : List UInt8) (hn : l.length = Nat.min m L) (B : Nat) (hr : Rd w B A l) (hg : Row w g (List.replicate L 0)) (B0 : Nat) (w0 : World) (hb : Below B0 w0 w) (hB : B0 ≤ g)
    (h : ∀ w', Row w' g (l ++ List.replicate (L - l.length) 0) → Below B0 w0 w' → wpList Try.prog ops Q rest (a.put o.dst (.int .i64 (l.length : Nat))) w') : wpList Try.prog ops Q (o :: rest) a w := by
  have hle : l.length ≤ L := by rw [hn]; exact Nat.min_le_right _ _
  refine wpList_copy_splice hgd d s 37 37 ho 5 Try.underlying37 size5 _ A L L m cap hd hs g 0 ((List.replicate L (0 : UInt8)).map b8) 5 hg (l.map b8) (by simpa using hn) (fun h0 => ⟨rfl, hr.src (by simpa using h0)⟩) (by simpa using hle) (one_b8 l) B0 w0 hb hB ?_
  intro w' hw' hb'
  have e : goInt (List.map b8 l).length = .int .i64 (l.length : Nat) := by simp [goInt]
  rw [e]
  refine h w' ?_ hb'
  have := hw'.out
  unfold Row
  rw [this]
  simp [splice]
/-- Bytes as a string. -/
def str (l : List UInt8) : ByteArray := ⟨l.toArray⟩
theorem str_toList (l : List UInt8) : (str l).toList = l := by rw [ByteArray.toList_eq]; rfl
theorem conv_any {w : World} {B : Nat} {A : Option Addr} {l : List UInt8} (h : Rd w B A l) (m cap : Nat) (hm : m = l.length) : (convert 37 9 (.slice A m cap)).run Try.prog w = .ok (.string (str l)) w := by
  subst hm
  by_cases h0 : 0 < l.length
  · obtain ⟨ad, rfl, _, hc⟩ := h h0
    exact run_convert_bytes_back w 37 9 5 ad cap l Try.underlying37 Try.underlying5 Try.underlying9 hc
  · obtain rfl : l = [] := List.eq_nil_of_length_eq_zero (by omega)
    rw [run_convert_bytes_string w 37 9 5 A _ cap Try.underlying37 Try.underlying5 Try.underlying9]
    rcases A with _ | ad
    · rfl
    · exact run_bytesToString w ad 0 cap [] (run_loadCells_list (P := Try.prog) w ad [] (by intro j v hv; simp at hv))
end Go.Proofs.Yteolfclkcgfelaa.Coin
