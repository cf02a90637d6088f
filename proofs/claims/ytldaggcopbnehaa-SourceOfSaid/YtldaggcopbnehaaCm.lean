/- Plain facts on changes as bytes: no Go in sight. -/
import Derived.Test.YtldaggcopbnehaaPrs
import Derived.Test.YtldaggcopbnehaaPFns
namespace Go.Proofs.Ytldaggcopbnehaa.Chg
open Coin

/-- A number out of a difference, and back. -/
def fold (n : Int) : Nat := if n < 0 then (-2 * n - 1).toNat else (2 * n).toNat
def openV (n : Nat) : Int := if n % 2 = 1 then -((n / 2 : Nat) : Int) - 1 else ((n / 2 : Nat) : Int)
theorem open_fold (n : Int) : openV (fold n) = n := by unfold openV fold; split <;> split <;> omega
theorem fold_lt (n : Int) (h1 : -65536 ≤ n) (h2 : n ≤ 65536) : fold n < 200000 := by unfold fold; split <;> omega

/-- A change. -/
structure C where
  no : Nat
  time : Nat
  gone : Bool
  addr : Nat
  len : Nat
  via : Nat
  metric : Nat
  seq : Nat

theorem C.ext' {c d : C} (h1 : c.no = d.no) (h2 : c.time = d.time) (h3 : c.gone = d.gone) (h4 : c.addr = d.addr) (h5 : c.len = d.len) (h6 : c.via = d.via) (h7 : c.metric = d.metric) (h8 : c.seq = d.seq) : c = d := by
  cases c; cases d; simp_all

/-- May a change be? -/
def C.Ok (c : C) : Prop := c.no < 18446744073709551616 ∧ c.time < 18446744073709551616 ∧ c.addr < 4294967296 ∧ c.len ≤ 32 ∧ c.via < 16 ∧ c.metric < 65535 ∧ c.seq < 65536 ∧ Pre.right c.addr c.len = true ∧ (c.gone = true → c.via = 0 ∧ c.metric = 0 ∧ c.seq = 0)
/-- May it stand behind another one? -/
def C.After (l c : C) : Prop := c.no = l.no + 1 ∧ l.time ≤ c.time

end Go.Proofs.Ytldaggcopbnehaa.Chg
