/- The law's own do: whichever act. -/
import Derived.Test.YtkalgonkaoiapaaRd0
import Derived.Test.YtkalgonkaoiapaaRd1
import Derived.Test.YtkalgonkaoiapaaRd2
import Derived.Test.YtkalgonkaoiapaaRd3
import Derived.Test.YtkalgonkaoiapaaRd8
import Derived.Test.YtkalgonkaoiapaaRd10
import Derived.Test.YtkalgonkaoiapaaRd6
import Derived.Test.YtkalgonkaoiapaaRd11
namespace Go.Proofs.Ytkalgonkaoiapaa.Shf
open Go.ChangeShapes Go.WideShapes Go.ChangeAt Go.RowKit

/-- What an act makes of a shelf; of the other one. -/
def DoM (T : Nat → Tag) (m : M) (K A B : Nat) (N : Int) (p : S) (m' : M) : Prop :=
  ((K % 12 = 0 ∨ K % 12 = 1) ∧ ∃ b, T b = .none ∧ m' = m.create (nameOf A) b) ∨ ((K % 12 = 2 ∨ K % 12 = 3) ∧ m' = m.append (nameOf A) p) ∨ (K % 12 = 4 ∧ m' = m.sync (nameOf A)) ∨ (K % 12 = 5 ∧ m' = m.names) ∨
  (K % 12 = 6 ∧ m' = m.rename (nameOf A) (nameOf B)) ∨ (K % 12 = 7 ∧ m' = m.delete (nameOf A)) ∨ (K % 12 = 8 ∧ m' = m.cut (nameOf A) N) ∨ (K % 12 = 9 ∧ m' = m.arm (N.tmod 12)) ∨ (K % 12 = 10 ∧ m' = { m with room := N.tmod 300 }) ∨ (K % 12 = 11 ∧ m' = m.fall N (B : Int))
def doX (x : X) (K A B : Nat) (N : Int) (p : S) : X :=
  match K % 12 with
  | 0 | 1 => (x.create (nameOf A)).1
  | 2 | 3 => (x.append (nameOf A) p).1
  | 4 => (x.sync (nameOf A)).1
  | 5 => (if x.stop then x.act else { x.act with was := [x.now] })
  | 6 => (x.rename (nameOf A) (nameOf B)).1
  | 7 => (x.delete (nameOf A)).1
  | 8 => (x.cut (nameOf A) N).1
  | 9 => { x with left := (if N.tmod 12 < 0 then -1 else N.tmod 12) }
  | 10 => { x with room := N.tmod 300 }
  | _ => x.fall N (B : Int)
theorem doX_inv {i : Nat} {x : X} (h : x.Inv i) (K A B : Nat) (N : Int) (p : S) (hp : p.length ≤ 60) : (doX x K A B N p).Inv (i + 1) := by
  have h1 := Int.lt_tmod_of_pos N (b := 12) (by decide)
  have h2 := Int.tmod_lt_of_pos N (b := 12) (by decide)
  unfold doX
  split
  · exact h.create _
  · exact h.create _
  · exact h.append _ _ hp
  · exact h.append _ _ hp
  · exact h.sync _
  · exact h.names
  · exact h.rename _ _
  · exact h.delete _
  · exact h.cut _ _
  · exact h.arm _ (by split <;> omega)
  · exact h.room _
  · exact h.fall _ _
theorem do_any (w : World) (T : Nat → Tag) (q : Nat) (m : M) (xv : Value) (x : X) (i K A B : Nat) (N : Int) (p : S) (Ax : Option Addr) (cx : Nat) (g : Nat) (hgT : T g = .none) (hgl : g < w.heap.size) (R : Rep w T q m) (RX : RXE w (mkg T g) xv x) (I : x.Inv i) (hi : i ≤ 100) (hd : m.done ≤ 1000) (hK : K < 256) (hA : A < 256) (hB : B < 256)
    (hN : (Lit.int .i64 N).wf = true) (hp : RdN w (mkg T g) Ax p) (hAx : Ax = none → cx = 0) (hcx : p.length ≤ cx) (hp60 : p.length ≤ 60) (hroom : -1000000000 ≤ m.room) :
    Calls Try.prog 16 #[.pointer (some ⟨q, 0, none⟩), xv, .agg #[.int .u8 (K : Int), .int .u8 (A : Int), .int .u8 (B : Int), .int .i64 N, .slice Ax p.length cx]] w fun e w' =>
      ∃ T' xv' m' b, e = .returned (.tuple #[xv', .bool b]) ∧ DoM T m K A B N p m' ∧ Rep w' T' q m' ∧ RXE w' (mkg T' g) xv' (doX x K A B N p) ∧ Ext w T w' T' := by
  have h : K % 12 = 0 ∨ K % 12 = 1 ∨ K % 12 = 2 ∨ K % 12 = 3 ∨ K % 12 = 4 ∨ K % 12 = 5 ∨ K % 12 = 6 ∨ K % 12 = 7 ∨ K % 12 = 8 ∨ K % 12 = 9 ∨ K % 12 = 10 ∨ K % 12 = 11 := by omega
  unfold DoM doX
  rcases h with hk | hk | hk | hk | hk | hk | hk | hk | hk | hk | hk | hk
  · exact (do0_any w T q m xv x i K A B N p Ax cx g hgT hgl R RX I hi hd hK hA hB hN hp hAx hcx hp60 hroom hk).mono fun e w' ⟨T', xv', m', b, h1, h2, h3, h4, h5⟩ => ⟨T', xv', m', b, h1, .inl ⟨.inl hk, h2⟩, h3, by rw [hk]; exact h4, h5⟩
  · exact (do1_any w T q m xv x i K A B N p Ax cx g hgT hgl R RX I hi hd hK hA hB hN hp hAx hcx hp60 hroom hk).mono fun e w' ⟨T', xv', m', b, h1, h2, h3, h4, h5⟩ => ⟨T', xv', m', b, h1, .inl ⟨.inr hk, h2⟩, h3, by rw [hk]; exact h4, h5⟩
  · exact (do2_any w T q m xv x i K A B N p Ax cx g hgT hgl R RX I hi hd hK hA hB hN hp hAx hcx hp60 hroom hk).mono fun e w' ⟨T', xv', m', b, h1, h2, h3, h4, h5⟩ => ⟨T', xv', m', b, h1, .inr (.inl ⟨.inl hk, h2⟩), h3, by rw [hk]; exact h4, h5⟩
  · exact (do3_any w T q m xv x i K A B N p Ax cx g hgT hgl R RX I hi hd hK hA hB hN hp hAx hcx hp60 hroom hk).mono fun e w' ⟨T', xv', m', b, h1, h2, h3, h4, h5⟩ => ⟨T', xv', m', b, h1, .inr (.inl ⟨.inr hk, h2⟩), h3, by rw [hk]; exact h4, h5⟩
  · exact (do4_any w T q m xv x i K A B N p Ax cx g hgT hgl R RX I hi hd hK hA hB hN hp hAx hcx hp60 hroom hk).mono fun e w' ⟨T', xv', m', b, h1, h2, h3, h4, h5⟩ => ⟨T', xv', m', b, h1, .inr (.inr (.inl ⟨hk, h2⟩)), h3, by rw [hk]; exact h4, h5⟩
  · exact (do5_any w T q m xv x i K A B N p Ax cx g hgT hgl R RX I hi hd hK hA hB hN hp hAx hcx hp60 hroom hk).mono fun e w' ⟨T', xv', m', b, h1, h2, h3, h4, h5⟩ => ⟨T', xv', m', b, h1, .inr (.inr (.inr (.inl ⟨hk, h2⟩))), h3, by rw [hk]; exact h4, h5⟩
  · exact (do6_any w T q m xv x i K A B N p Ax cx g hgT hgl R RX I hi hd hK hA hB hN hp hAx hcx hp60 hroom hk).mono fun e w' ⟨T', xv', m', b, h1, h2, h3, h4, h5⟩ => ⟨T', xv', m', b, h1, .inr (.inr (.inr (.inr (.inl ⟨hk, h2⟩)))), h3, by rw [hk]; exact h4, h5⟩
  · exact (do7_any w T q m xv x i K A B N p Ax cx g hgT hgl R RX I hi hd hK hA hB hN hp hAx hcx hp60 hroom hk).mono fun e w' ⟨T', xv', m', b, h1, h2, h3, h4, h5⟩ => ⟨T', xv', m', b, h1, .inr (.inr (.inr (.inr (.inr (.inl ⟨hk, h2⟩))))), h3, by rw [hk]; exact h4, h5⟩
  · exact (do8_any w T q m xv x i K A B N p Ax cx g hgT hgl R RX I hi hd hK hA hB hN hp hAx hcx hp60 hroom hk).mono fun e w' ⟨T', xv', m', b, h1, h2, h3, h4, h5⟩ => ⟨T', xv', m', b, h1, .inr (.inr (.inr (.inr (.inr (.inr (.inl ⟨hk, h2⟩)))))), h3, by rw [hk]; exact h4, h5⟩
  · exact (do9_any w T q m xv x i K A B N p Ax cx g hgT hgl R RX I hi hd hK hA hB hN hp hAx hcx hp60 hroom hk).mono fun e w' ⟨T', xv', m', b, h1, h2, h3, h4, h5⟩ => ⟨T', xv', m', b, h1, .inr (.inr (.inr (.inr (.inr (.inr (.inr (.inl ⟨hk, h2⟩))))))), h3, by rw [hk]; exact h4, h5⟩
  · exact (do10_any w T q m xv x i K A B N p Ax cx g hgT hgl R RX I hi hd hK hA hB hN hp hAx hcx hp60 hroom hk).mono fun e w' ⟨T', xv', m', b, h1, h2, h3, h4, h5⟩ => ⟨T', xv', m', b, h1, .inr (.inr (.inr (.inr (.inr (.inr (.inr (.inr (.inl ⟨hk, h2⟩)))))))), h3, by rw [hk]; exact h4, h5⟩
  · exact (do11_any w T q m xv x i K A B N p Ax cx g hgT hgl R RX I hi hd hK hA hB hN hp hAx hcx hp60 hroom hk).mono fun e w' ⟨T', xv', m', b, h1, h2, h3, h4, h5⟩ => ⟨T', xv', m', b, h1, .inr (.inr (.inr (.inr (.inr (.inr (.inr (.inr (.inr ⟨hk, h2⟩)))))))), h3, by rw [hk]; exact h4, h5⟩
end Go.Proofs.Ytkalgonkaoiapaa.Shf
