/- A shelf armed, and with other room. -/
import Derived.Test.YtkalgonkaoiapaaAww
namespace Go.Proofs.Ytkalgonkaoiapaa.Shf
open Go.ChangeShapes Go.WideShapes Go.ChangeAt Go.RowKit

theorem grown_chg {w w' : World} {q : Nat} (h : w.grownBy w' (some q)) : Chg w w' (fun k => k = q) := ⟨h.os, h.tape, h.output, h.size, fun b hb hn => h.block b hb (fun e => hn (by injection e))⟩
theorem arm_rep (w : World) (T : Nat → Tag) (q : Nat) (m : M) (R : Rep w T q m) (n : Int) (hn : n < 9223372036854775808) :
    Calls Try.prog 20 #[.pointer (some ⟨q, 0, none⟩), .int .i64 n] w fun e w' => e = .returned (.tuple #[]) ∧ Rep w' T q (m.arm n) ∧ Ext w T w' T := by
  obtain ⟨⟨nv, sv, mv, nn, ns, RV⟩, F⟩ := R
  refine (arm_any w q m nv sv mv RV.sh n).mono fun e w' h => ?_
  obtain ⟨he, hS, hg⟩ := h
  have hc := grown_chg hg
  refine ⟨he, ⟨⟨nv, sv, mv, nn, ns, RV.sh_step hc hS ⟨rfl, rfl, rfl, rfl⟩ (Nat.le_refl _)⟩, ?_⟩, hc.ext (fun k _ h => by rw [h, RV.tq]; intro h; cases h) (fun _ _ => rfl)⟩
  refine ⟨fun h => ?_, F.named, F.good, F.now, F.room, F.bytes, F.lost.imp fun _ k => ⟨k.nd, k.out, k.all, k.some, k.sum⟩⟩
  have h : decide (0 ≤ n) = true := h
  exact ⟨of_decide_eq_true h, hn⟩
theorem room_rep (w : World) (T : Nat → Tag) (q : Nat) (m : M) (R : Rep w T q m) (n : Int) (hn : n ≤ 1000000000) :
    Calls Try.prog 26 #[.pointer (some ⟨q, 0, none⟩), .int .i64 n] w fun e w' => e = .returned (.tuple #[]) ∧ Rep w' T q {m with room := n} ∧ Ext w T w' T := by
  obtain ⟨⟨nv, sv, mv, nn, ns, RV⟩, F⟩ := R
  refine (room_any w q m nv sv mv RV.sh n).mono fun e w' h => ?_
  obtain ⟨he, hS, hg⟩ := h
  have hc := grown_chg hg
  exact ⟨he, ⟨⟨nv, sv, mv, nn, ns, RV.sh_step hc hS ⟨rfl, rfl, rfl, rfl⟩ (Nat.le_refl _)⟩, ⟨F.ahead, F.named, F.good, F.now, hn, F.bytes, F.lost.imp fun _ k => ⟨k.nd, k.out, k.all, k.some, k.sum⟩⟩⟩, hc.ext (fun k _ h => by rw [h, RV.tq]; intro h; cases h) (fun _ _ => rfl)⟩
end Go.Proofs.Ytkalgonkaoiapaa.Shf
