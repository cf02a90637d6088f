/- Parts and packets, as the document has them. -/
import Derived.Test.YtecfblkagbdjlaaMq
import Derived.Test.YtecfblkagbdjlaaPr
namespace Go.Proofs.Ytecfblkagbdjlaa.Msg
open Go.ChangeShapes Go.WideShapes Go.ChangeAt Go.RowKit
open Coin (coin got takeV bytesV endV sz b8 length_coin sz_le)
open Tal (more)

/-- A part. -/
structure Pt where
  K : Nat
  N : Nat
  Nd : Int
  A : Nat
  L : Nat
  Sq : Nat
  M : Nat
structure Pt.Fits (x : Pt) : Prop where
  k : x.K < 256
  n : x.N < 18446744073709551616
  d : -9223372036854775808 ≤ x.Nd
  d' : x.Nd ≤ 9223372036854775807
  a : x.A < 4294967296
  l : x.L < 256
  s : x.Sq < 65536
  m : x.M < 65536
def Pt.cl (x : Pt) : List Value := [.int .u8 (x.K : Int), .int .u64 (x.N : Int), .int .i64 x.Nd, .int .u32 (x.A : Int), .int .u8 (x.L : Int), .int .u16 (x.Sq : Int), .int .u16 (x.M : Int)]
theorem Pt.len (x : Pt) : x.cl.length = 7 := rfl
def isNd (n : Int) : Bool := decide (0 ≤ n) && decide (n < 16)
/-- May a part be? -/
def Pt.rt (x : Pt) : Bool :=
  if x.K = 1 then x.Nd == 0 && (x.A == 0 && (x.L == 0 && (x.Sq == 0 && (x.M == 0 && decide (x.N ≤ 4294967295)))))
  else if x.K = 2 then x.N == 0 && (x.A == 0 && (x.L == 0 && (x.Sq == 0 && isNd x.Nd)))
  else if x.K = 3 then x.N == 0 && (isNd x.Nd && Pre.right x.A x.L)
  else if x.K = 4 then x.Nd == 0 && (x.M == 0 && (Pre.right x.A x.L && decide (x.N ≤ 64)))
  else false
/-- The numbers that a part tells. -/
def Pt.nums (x : Pt) : List Nat :=
  if x.K = 1 then [x.N] else if x.K = 2 then [x.Nd.toNat, x.M] else if x.K = 3 then [x.Nd.toNat, x.A, x.L, x.Sq, x.M]
  else if x.K = 4 then [x.A, x.L, x.Sq, x.N] else []
def coins (ns : List Nat) : List UInt8 := ns.flatMap coin
theorem coins_len (ns : List Nat) : (coins ns).length ≤ 9 * ns.length := by
  induction ns with
  | nil => exact Nat.le_refl _
  | cons n ns ih =>
    have := sz_le n
    have e : (coins (n :: ns)).length = (coin n).length + (coins ns).length := by unfold coins; rw [List.flatMap_cons, List.length_append]
    rw [e, length_coin, List.length_cons]; omega
def Pt.body (x : Pt) : List UInt8 := coins x.nums
/-- A part as bytes. -/
def Pt.bytes (x : Pt) : List UInt8 := UInt8.ofNat x.K :: (coin x.body.length ++ x.body)
theorem Pt.nums_len (x : Pt) : x.nums.length ≤ 5 := by
  unfold Pt.nums
  repeat' split
  all_goals simp
theorem Pt.body_len (x : Pt) : x.body.length ≤ 45 := by
  have := coins_len x.nums
  have := x.nums_len
  unfold Pt.body; omega
theorem Pt.bytes_len (x : Pt) : x.bytes.length ≤ 55 := by
  have := x.body_len
  have := sz_le x.body.length
  simp only [Pt.bytes, List.length_cons, List.length_append, length_coin]; omega
/-- The parts that are told. -/
def kept (l : List Pt) : List Pt := (l.filter Pt.rt).take 300
/-- A packet as bytes, ahead of its sum. -/
def encB (f : Nat) (l : List Pt) : List UInt8 := (1 :: coin f) ++ (kept l).flatMap Pt.bytes
def sealB (p : List UInt8) : List UInt8 := p ++ tailb (more 0 p)
def enc (f : Nat) (l : List Pt) : List UInt8 := sealB (encB f l)
theorem flat_len (l : List Pt) : (l.flatMap Pt.bytes).length ≤ 55 * l.length := by
  induction l with
  | nil => exact Nat.le_refl _
  | cons x l ih => simp only [List.flatMap_cons, List.length_append, List.length_cons]; have := x.bytes_len; omega
theorem kept_len (l : List Pt) : (kept l).length ≤ 300 := by unfold kept; rw [List.length_take]; omega
theorem encB_len (f : Nat) (l : List Pt) : (encB f l).length ≤ 16510 := by
  have := flat_len (kept l)
  have := kept_len l
  have := sz_le f
  simp only [encB, List.length_append, List.length_cons, length_coin]; omega
end Go.Proofs.Ytecfblkagbdjlaa.Msg
