/- The closures of write and begin. -/
import Derived.Test.YtdbhgkbmbbjpdaaGreatDoorNh
import Derived.Test.YtdbhgkbmbbjpdaaGreatDoorShv
import Derived.Deep.DeepCutAuto
namespace Go.Proofs.YtdbhgkbmbbjpdaaGreatDoor.Chr
open Go.ChangeShapes Go.WideShapes Go.ChangeAt Go.RowKit
open Shf (S str)
open Coin (Rd Row Own sz coin got Pur takeV endV CoinSaid)
open Frm (pack err size kind cnt body noItem itemV OneSaid)
set_option maxRecDepth 8000
set_option linter.unusedVariables false
open Shf (Tag Ext Rep M RdN create_rep append_rep sync_rep rename_rep)
def besN : S := [105, 110, 100, 101, 120, 46, 110, 101, 119]
theorem rdn_below {w W : World} {T : Nat → Tag} {A : Option Addr} {l : S} (h : RdN w T A l) (hW : Below w.heap.size w W) : RdN W T A l :=
  ⟨h.1.at (fun ad e h0 => hW.block _ (h.2 h0 ad e).2), fun h0 ad e => ⟨(h.2 h0 ad e).1, Nat.lt_of_lt_of_le (h.2 h0 ad e).2 hW.size⟩⟩
set_option maxHeartbeats 1000000 in
theorem cl75_any (w : World) (T : Nat → Tag) (q : Nat) (m : M) (p xc : Nat) (R : Rep w T q m) (hd : m.done < 1000000) (hxc : w.cell? ⟨xc, 0, none⟩ = some (.pointer (some ⟨p, 0, none⟩))) (txc : T xc = .none) (hp0 : w.cell? ⟨p, 0, none⟩ = some (.pointer (some ⟨q, 0, none⟩))) (tp : T p = .none) :
    Calls Tryz.prog 75 #[.pointer (some ⟨xc, 0, none⟩)] w fun e w' => e = .returned (.int .i64 (m.createE besN : Int)) ∧ ∃ T' b, Rep w' T' q (m.create besN b) ∧ Ext w T w' T' := by
  have hc : ∀ W, Rep W T q m → Below w.heap.size w W → Calls Tryz.prog 34 #[.pointer (some ⟨q, 0, none⟩), .string (str besN)] W fun e w' => e = .returned (.int .i64 (m.createE besN : Int)) ∧ ∃ T' b, Rep w' T' q (m.create besN b) ∧ Ext W T w' T' := fun W RW hW => (create_rep W T q m besN RW (by omega) (by decide)).mono fun e w' ⟨h1, T', b, h2, h3, _⟩ => ⟨h1, T', b, h2, h3⟩
  obtain ⟨co, hco⟩ : ∃ n : Nat, n = m.createE besN := ⟨_, rfl⟩
  rw [← hco] at hc ⊢
  have c0 := hc w R (Below.refl _ _)
  clear hc R hd hco
  go_enter Tryz.func75, Tryz.ntmps75
  go_wp2_with (go_at_call 34; (refine c0.mono ?_); rintro e w2 ⟨rfl, h2⟩; have H2 := Lib.hid h2; clear h2 c0)
  go_ret
  exact ⟨rfl, H2.out⟩
set_option maxHeartbeats 1000000 in
theorem cl76_any (w : World) (T : Nat → Tag) (q : Nat) (m : M) (p xc : Nat) (R : Rep w T q m) (hd : m.done < 1000000) (hxc : w.cell? ⟨xc, 0, none⟩ = some (.pointer (some ⟨p, 0, none⟩))) (txc : T xc = .none) (hp0 : w.cell? ⟨p, 0, none⟩ = some (.pointer (some ⟨q, 0, none⟩))) (tp : T p = .none) (A : Option Addr) (c n : Nat) (bs : S) (hn : n = bs.length) (hbs : RdN w T A bs) (hA : A = none → c = 0) (hbl : bs.length ≤ 1000000) (hroom : -1000000000000 ≤ m.room) (xp : Nat) (hxp : w.cell? ⟨xp, 0, none⟩ = some (.slice A n c)) (txp : T xp = .none) :
    Calls Tryz.prog 76 #[.pointer (some ⟨xc, 0, none⟩), .pointer (some ⟨xp, 0, none⟩)] w fun e w' => e = .returned (.int .i64 (m.appendE besN bs : Int)) ∧ ∃ T', Rep w' T' q (m.append besN bs) ∧ Ext w T w' T' := by
  have hc : ∀ W, Rep W T q m → Below w.heap.size w W → Calls Tryz.prog 35 #[.pointer (some ⟨q, 0, none⟩), .string (str besN), .slice A n c] W fun e w' => e = .returned (.int .i64 (m.appendE besN bs : Int)) ∧ ∃ T', Rep w' T' q (m.append besN bs) ∧ Ext W T w' T' := fun W RW hW => by have c9 := append_rep W T q m besN bs A c RW (by omega) (by decide) (rdn_below hbs hW) hA (by omega) hroom; rw [← hn] at c9; exact c9
  obtain ⟨co, hco⟩ : ∃ n : Nat, n = m.appendE besN bs := ⟨_, rfl⟩
  rw [← hco] at hc ⊢
  have HC := Lib.hid (hc w.drew (R.below ((Below.refl _ _).drew)) ((Below.refl _ _).drew))
  have HX := Lib.hid (show Ext w T w.drew T from ⟨rfl, rfl, rfl, Nat.le_refl _, fun _ _ => rfl, fun _ _ _ => rfl⟩)
  have HK : Hid (∀ w2 T2, Ext w.drew T w2 T2 → (w2.cell? ⟨xc, 0, none⟩ = some (.pointer (some ⟨p, 0, none⟩)) ∧ w2.cell? ⟨p, 0, none⟩ = some (.pointer (some ⟨q, 0, none⟩)) ∧ w2.cell? ⟨xp, 0, none⟩ = some (.slice A n c))) := fun w2 T2 X => ⟨(World.cell?_of_block (a := ⟨xc, 0, none⟩) (X.block xc (block_lt_of_cell (a := ⟨xc, 0, none⟩) hxc) txc)).trans hxc, (World.cell?_of_block (a := ⟨p, 0, none⟩) (X.block p (block_lt_of_cell (a := ⟨p, 0, none⟩) hp0) tp)).trans hp0, (World.cell?_of_block (a := ⟨xp, 0, none⟩) (X.block xp (block_lt_of_cell (a := ⟨xp, 0, none⟩) hxp) txp)).trans hxp⟩
  have hS : (fun y : World => y.cell? ⟨xc, 0, none⟩ = some (.pointer (some ⟨p, 0, none⟩)) ∧ y.cell? ⟨p, 0, none⟩ = some (.pointer (some ⟨q, 0, none⟩)) ∧ y.cell? ⟨xp, 0, none⟩ = some (.slice A n c)) w.drew := ⟨hxc, hp0, hxp⟩
  clear hc R hd hco hxc hp0 hxp hn hbs hA hbl hroom
  go_enter Tryz.func76, Tryz.ntmps76
  go_upto_region 1 with (fail)
  refine wp_region_noPanic ?_
  refine wp_region_held_drew (S := fun y : World => y.cell? ⟨xc, 0, none⟩ = some (.pointer (some ⟨p, 0, none⟩)) ∧ y.cell? ⟨p, 0, none⟩ = some (.pointer (some ⟨q, 0, none⟩)) ∧ y.cell? ⟨xp, 0, none⟩ = some (.slice A n c)) (by kernel_rfl) hS (fun hHeld => ?_)
  generalize w.drew = wd at *
  refine wpAnyH_take (i := 0) (oi := ⟨some 3, .load 26 (.tmp 0), 26, "files.go:117", #[], none⟩) (v := .pointer (some ⟨p, 0, none⟩)) rfl (by kernel_rfl) (by kernel_rfl) (by kernel_rfl) (fun _ _ _ h => h) (Or.inl ⟨by rfl, fun w hSw => by obtain ⟨z0, z1, z2⟩ := hSw; go_simp⟩) (by assumption) ?_
  try simp only [Act.put, stA, stB, stC]
  refine wpAnyH_take (i := 1) (oi := ⟨some 4, .nilCheck (.tmp 3), 0, "files.go:117", #[⟨0, .data⟩], none⟩) (v := .pointer (some ⟨p, 0, none⟩)) rfl (by kernel_rfl) (by kernel_rfl) (by kernel_rfl) (fun _ _ _ h => h) (Or.inl ⟨by rfl, fun w hSw => by go_simp⟩) (by assumption) ?_
  try simp only [Act.put, stA, stB, stC]
  refine wpAnyH_take (i := 2) (oi := ⟨some 5, .fieldAddr 82 (.tmp 4) 0, 0, "files.go:117", #[⟨1, .data⟩], none⟩) (v := .pointer (some ⟨p, 0, none⟩)) rfl (by kernel_rfl) (by kernel_rfl) (by kernel_rfl) (fun _ _ _ h => h) (Or.inl ⟨by rfl, fun w hSw => by go_simp⟩) (by assumption) ?_
  try simp only [Act.put, stA, stB, stC]
  refine wpAnyH_take (i := 3) (oi := ⟨some 6, .load 24 (.tmp 5), 24, "files.go:117", #[⟨2, .data⟩], none⟩) (v := .pointer (some ⟨q, 0, none⟩)) rfl (by kernel_rfl) (by kernel_rfl) (by kernel_rfl) (fun _ _ _ h => h) (Or.inl ⟨by rfl, fun w hSw => by obtain ⟨z0, z1, z2⟩ := hSw; go_simp⟩) (by assumption) ?_
  try simp only [Act.put, stA, stB, stC]
  refine wpAnyH_take (i := 4) (oi := ⟨some 7, .load 30 (.tmp 1), 30, "files.go:117", #[], none⟩) (v := .slice A n c) rfl (by kernel_rfl) (by kernel_rfl) (by kernel_rfl) (fun _ _ _ h => h) (Or.inl ⟨by rfl, fun w hSw => by obtain ⟨z0, z1, z2⟩ := hSw; go_simp⟩) (by assumption) ?_
  try simp only [Act.put, stA, stB, stC]
  refine wpAnyH_ready (rs := [5]) (by kernel_rfl) (by simp) ?_
  refine AllReadyH.cons (o := ⟨some 8, .call ⟨.value (.func 35), #[.tmp 6, .const (.string { data := #[105, 110, 100, 101, 120, 46, 110, 101, 119] }), .tmp 7], #[24, 9, 30]⟩, 27, "files.go:117", #[⟨3, .data⟩, ⟨4, .data⟩], none⟩) rfl (fun K hK => ?_) AllReadyH.nil
  go_simp
  refine HC.out.mono ?_
  rintro e w2 ⟨rfl, T2, R2, X2⟩
  have H2 := Lib.hid (And.intro R2 X2)
  refine hK.out _ _ (HK.out _ _ X2) (fun hHeld => ?_)
  clear hK K
  try simp only [Act.put, stA, stB, stC]
  clear R2 X2
  refine wpAnyH_take (i := 6) (oi := ⟨some 2, .assign (.tmp 8), 27, "files.go:117", #[⟨5, .data⟩, ⟨5, .chain⟩, ⟨0, .phase⟩, ⟨1, .phase⟩, ⟨2, .phase⟩, ⟨3, .phase⟩, ⟨4, .phase⟩, ⟨5, .phase⟩], none⟩) (v := .int .i64 (co : Int)) rfl (by kernel_rfl) (by kernel_rfl) (by kernel_rfl) (fun _ _ _ h => h) (Or.inl ⟨by rfl, fun w hSw => by go_simp⟩) (by assumption) ?_
  try simp only [Act.put, stA, stB, stC]
  refine wpAnyH_done (by kernel_rfl) ?_ _
  try unfold NoPanic
  go_wp2
  go_ret
  exact ⟨rfl, T2, H2.out.1, HX.out.trans H2.out.2⟩
set_option maxHeartbeats 1000000 in
theorem cl77_any (w : World) (T : Nat → Tag) (q : Nat) (m : M) (p xc : Nat) (R : Rep w T q m) (hd : m.done < 1000000) (hxc : w.cell? ⟨xc, 0, none⟩ = some (.pointer (some ⟨p, 0, none⟩))) (txc : T xc = .none) (hp0 : w.cell? ⟨p, 0, none⟩ = some (.pointer (some ⟨q, 0, none⟩))) (tp : T p = .none) :
    Calls Tryz.prog 77 #[.pointer (some ⟨xc, 0, none⟩)] w fun e w' => e = .returned (.int .i64 (m.onE besN : Int)) ∧ ∃ T', Rep w' T' q (m.sync besN) ∧ Ext w T w' T' := by
  have hc : ∀ W, Rep W T q m → Below w.heap.size w W → Calls Tryz.prog 52 #[.pointer (some ⟨q, 0, none⟩), .string (str besN)] W fun e w' => e = .returned (.int .i64 (m.onE besN : Int)) ∧ ∃ T', Rep w' T' q (m.sync besN) ∧ Ext W T w' T' := fun W RW hW => sync_rep W T q m besN RW (by omega) (by decide)
  obtain ⟨co, hco⟩ : ∃ n : Nat, n = m.onE besN := ⟨_, rfl⟩
  rw [← hco] at hc ⊢
  have c0 := hc w R (Below.refl _ _)
  clear hc R hd hco
  go_enter Tryz.func77, Tryz.ntmps77
  go_wp2_with (go_at_call 52; (refine c0.mono ?_); rintro e w2 ⟨rfl, h2⟩; have H2 := Lib.hid h2; clear h2 c0)
  go_ret
  exact ⟨rfl, H2.out⟩
set_option maxHeartbeats 1000000 in
theorem cl78_any (w : World) (T : Nat → Tag) (q : Nat) (m : M) (p xc : Nat) (R : Rep w T q m) (hd : m.done < 1000000) (hxc : w.cell? ⟨xc, 0, none⟩ = some (.pointer (some ⟨p, 0, none⟩))) (txc : T xc = .none) (hp0 : w.cell? ⟨p, 0, none⟩ = some (.pointer (some ⟨q, 0, none⟩))) (tp : T p = .none) (nm : S) (hnm : nm.length ≤ 1000) (xn : Nat) (hxn : w.cell? ⟨xn, 0, none⟩ = some (.string (str nm))) (txn : T xn = .none) :
    Calls Tryz.prog 78 #[.pointer (some ⟨xc, 0, none⟩), .pointer (some ⟨xn, 0, none⟩)] w fun e w' => e = .returned (.int .i64 (m.renameE besN nm : Int)) ∧ ∃ T', Rep w' T' q (m.rename besN nm) ∧ Ext w T w' T' := by
  have hc : ∀ W, Rep W T q m → Below w.heap.size w W → Calls Tryz.prog 79 #[.pointer (some ⟨q, 0, none⟩), .string (str besN), .string (str nm)] W fun e w' => e = .returned (.int .i64 (m.renameE besN nm : Int)) ∧ ∃ T', Rep w' T' q (m.rename besN nm) ∧ Ext W T w' T' := fun W RW hW => rename_rep W T q m besN nm RW (by omega) (by decide) hnm
  obtain ⟨co, hco⟩ : ∃ n : Nat, n = m.renameE besN nm := ⟨_, rfl⟩
  rw [← hco] at hc ⊢
  have HC := Lib.hid (hc w.drew (R.below ((Below.refl _ _).drew)) ((Below.refl _ _).drew))
  have HX := Lib.hid (show Ext w T w.drew T from ⟨rfl, rfl, rfl, Nat.le_refl _, fun _ _ => rfl, fun _ _ _ => rfl⟩)
  have HK : Hid (∀ w2 T2, Ext w.drew T w2 T2 → (w2.cell? ⟨xc, 0, none⟩ = some (.pointer (some ⟨p, 0, none⟩)) ∧ w2.cell? ⟨p, 0, none⟩ = some (.pointer (some ⟨q, 0, none⟩)) ∧ w2.cell? ⟨xn, 0, none⟩ = some (.string (str nm)))) := fun w2 T2 X => ⟨(World.cell?_of_block (a := ⟨xc, 0, none⟩) (X.block xc (block_lt_of_cell (a := ⟨xc, 0, none⟩) hxc) txc)).trans hxc, (World.cell?_of_block (a := ⟨p, 0, none⟩) (X.block p (block_lt_of_cell (a := ⟨p, 0, none⟩) hp0) tp)).trans hp0, (World.cell?_of_block (a := ⟨xn, 0, none⟩) (X.block xn (block_lt_of_cell (a := ⟨xn, 0, none⟩) hxn) txn)).trans hxn⟩
  have hS : (fun y : World => y.cell? ⟨xc, 0, none⟩ = some (.pointer (some ⟨p, 0, none⟩)) ∧ y.cell? ⟨p, 0, none⟩ = some (.pointer (some ⟨q, 0, none⟩)) ∧ y.cell? ⟨xn, 0, none⟩ = some (.string (str nm))) w.drew := ⟨hxc, hp0, hxn⟩
  clear hc R hd hco hxc hp0 hxn hnm
  go_enter Tryz.func78, Tryz.ntmps78
  go_upto_region 1 with (fail)
  refine wp_region_noPanic ?_
  refine wp_region_held_drew (S := fun y : World => y.cell? ⟨xc, 0, none⟩ = some (.pointer (some ⟨p, 0, none⟩)) ∧ y.cell? ⟨p, 0, none⟩ = some (.pointer (some ⟨q, 0, none⟩)) ∧ y.cell? ⟨xn, 0, none⟩ = some (.string (str nm))) (by kernel_rfl) hS (fun hHeld => ?_)
  generalize w.drew = wd at *
  refine wpAnyH_take (i := 0) (oi := ⟨some 3, .load 26 (.tmp 0), 26, "files.go:119", #[], none⟩) (v := .pointer (some ⟨p, 0, none⟩)) rfl (by kernel_rfl) (by kernel_rfl) (by kernel_rfl) (fun _ _ _ h => h) (Or.inl ⟨by rfl, fun w hSw => by obtain ⟨z0, z1, z2⟩ := hSw; go_simp⟩) (by assumption) ?_
  try simp only [Act.put, stA, stB, stC]
  refine wpAnyH_take (i := 1) (oi := ⟨some 4, .nilCheck (.tmp 3), 0, "files.go:119", #[⟨0, .data⟩], none⟩) (v := .pointer (some ⟨p, 0, none⟩)) rfl (by kernel_rfl) (by kernel_rfl) (by kernel_rfl) (fun _ _ _ h => h) (Or.inl ⟨by rfl, fun w hSw => by go_simp⟩) (by assumption) ?_
  try simp only [Act.put, stA, stB, stC]
  refine wpAnyH_take (i := 2) (oi := ⟨some 5, .fieldAddr 82 (.tmp 4) 0, 0, "files.go:119", #[⟨1, .data⟩], none⟩) (v := .pointer (some ⟨p, 0, none⟩)) rfl (by kernel_rfl) (by kernel_rfl) (by kernel_rfl) (fun _ _ _ h => h) (Or.inl ⟨by rfl, fun w hSw => by go_simp⟩) (by assumption) ?_
  try simp only [Act.put, stA, stB, stC]
  refine wpAnyH_take (i := 3) (oi := ⟨some 6, .load 24 (.tmp 5), 24, "files.go:119", #[⟨2, .data⟩], none⟩) (v := .pointer (some ⟨q, 0, none⟩)) rfl (by kernel_rfl) (by kernel_rfl) (by kernel_rfl) (fun _ _ _ h => h) (Or.inl ⟨by rfl, fun w hSw => by obtain ⟨z0, z1, z2⟩ := hSw; go_simp⟩) (by assumption) ?_
  try simp only [Act.put, stA, stB, stC]
  refine wpAnyH_take (i := 4) (oi := ⟨some 7, .load 9 (.tmp 1), 9, "files.go:119", #[], none⟩) (v := .string (str nm)) rfl (by kernel_rfl) (by kernel_rfl) (by kernel_rfl) (fun _ _ _ h => h) (Or.inl ⟨by rfl, fun w hSw => by obtain ⟨z0, z1, z2⟩ := hSw; go_simp⟩) (by assumption) ?_
  try simp only [Act.put, stA, stB, stC]
  refine wpAnyH_ready (rs := [5]) (by kernel_rfl) (by simp) ?_
  refine AllReadyH.cons (o := ⟨some 8, .call ⟨.value (.func 79), #[.tmp 6, .const (.string { data := #[105, 110, 100, 101, 120, 46, 110, 101, 119] }), .tmp 7], #[24, 9, 9]⟩, 27, "files.go:119", #[⟨3, .data⟩, ⟨4, .data⟩], none⟩) rfl (fun K hK => ?_) AllReadyH.nil
  go_simp
  refine HC.out.mono ?_
  rintro e w2 ⟨rfl, T2, R2, X2⟩
  have H2 := Lib.hid (And.intro R2 X2)
  refine hK.out _ _ (HK.out _ _ X2) (fun hHeld => ?_)
  clear hK K
  try simp only [Act.put, stA, stB, stC]
  clear R2 X2
  refine wpAnyH_take (i := 6) (oi := ⟨some 2, .assign (.tmp 8), 27, "files.go:119", #[⟨5, .data⟩, ⟨5, .chain⟩, ⟨0, .phase⟩, ⟨1, .phase⟩, ⟨2, .phase⟩, ⟨3, .phase⟩, ⟨4, .phase⟩, ⟨5, .phase⟩], none⟩) (v := .int .i64 (co : Int)) rfl (by kernel_rfl) (by kernel_rfl) (by kernel_rfl) (fun _ _ _ h => h) (Or.inl ⟨by rfl, fun w hSw => by go_simp⟩) (by assumption) ?_
  try simp only [Act.put, stA, stB, stC]
  refine wpAnyH_done (by kernel_rfl) ?_ _
  try unfold NoPanic
  go_wp2
  go_ret
  exact ⟨rfl, T2, H2.out.1, HX.out.trans H2.out.2⟩
set_option maxHeartbeats 1000000 in
theorem cl105_any (w : World) (T : Nat → Tag) (q : Nat) (m : M) (p xc : Nat) (R : Rep w T q m) (hd : m.done < 1000000) (hxc : w.cell? ⟨xc, 0, none⟩ = some (.pointer (some ⟨p, 0, none⟩))) (txc : T xc = .none) (hp0 : w.cell? ⟨p, 0, none⟩ = some (.pointer (some ⟨q, 0, none⟩))) (tp : T p = .none) (nm : S) (hnm : nm.length ≤ 1000) (xn : Nat) (hxn : w.cell? ⟨xn, 0, none⟩ = some (.string (str nm))) (txn : T xn = .none) :
    Calls Tryz.prog 105 #[.pointer (some ⟨xc, 0, none⟩), .pointer (some ⟨xn, 0, none⟩)] w fun e w' => e = .returned (.int .i64 (m.createE nm : Int)) ∧ ∃ T' b, Rep w' T' q (m.create nm b) ∧ Ext w T w' T' := by
  have hc : ∀ W, Rep W T q m → Below w.heap.size w W → Calls Tryz.prog 34 #[.pointer (some ⟨q, 0, none⟩), .string (str nm)] W fun e w' => e = .returned (.int .i64 (m.createE nm : Int)) ∧ ∃ T' b, Rep w' T' q (m.create nm b) ∧ Ext W T w' T' := fun W RW hW => (create_rep W T q m nm RW (by omega) hnm).mono fun e w' ⟨h1, T', b, h2, h3, _⟩ => ⟨h1, T', b, h2, h3⟩
  obtain ⟨co, hco⟩ : ∃ n : Nat, n = m.createE nm := ⟨_, rfl⟩
  rw [← hco] at hc ⊢
  have HC := Lib.hid (hc w.drew (R.below ((Below.refl _ _).drew)) ((Below.refl _ _).drew))
  have HX := Lib.hid (show Ext w T w.drew T from ⟨rfl, rfl, rfl, Nat.le_refl _, fun _ _ => rfl, fun _ _ _ => rfl⟩)
  have HK : Hid (∀ w2 T2, Ext w.drew T w2 T2 → (w2.cell? ⟨xc, 0, none⟩ = some (.pointer (some ⟨p, 0, none⟩)) ∧ w2.cell? ⟨p, 0, none⟩ = some (.pointer (some ⟨q, 0, none⟩)) ∧ w2.cell? ⟨xn, 0, none⟩ = some (.string (str nm)))) := fun w2 T2 X => ⟨(World.cell?_of_block (a := ⟨xc, 0, none⟩) (X.block xc (block_lt_of_cell (a := ⟨xc, 0, none⟩) hxc) txc)).trans hxc, (World.cell?_of_block (a := ⟨p, 0, none⟩) (X.block p (block_lt_of_cell (a := ⟨p, 0, none⟩) hp0) tp)).trans hp0, (World.cell?_of_block (a := ⟨xn, 0, none⟩) (X.block xn (block_lt_of_cell (a := ⟨xn, 0, none⟩) hxn) txn)).trans hxn⟩
  have hS : (fun y : World => y.cell? ⟨xc, 0, none⟩ = some (.pointer (some ⟨p, 0, none⟩)) ∧ y.cell? ⟨p, 0, none⟩ = some (.pointer (some ⟨q, 0, none⟩)) ∧ y.cell? ⟨xn, 0, none⟩ = some (.string (str nm))) w.drew := ⟨hxc, hp0, hxn⟩
  clear hc R hd hco hxc hp0 hxn hnm
  go_enter Tryz.func105, Tryz.ntmps105
  go_upto_region 1 with (fail)
  refine wp_region_noPanic ?_
  refine wp_region_held_drew (S := fun y : World => y.cell? ⟨xc, 0, none⟩ = some (.pointer (some ⟨p, 0, none⟩)) ∧ y.cell? ⟨p, 0, none⟩ = some (.pointer (some ⟨q, 0, none⟩)) ∧ y.cell? ⟨xn, 0, none⟩ = some (.string (str nm))) (by kernel_rfl) hS (fun hHeld => ?_)
  generalize w.drew = wd at *
  refine wpAnyH_take (i := 0) (oi := ⟨some 3, .load 26 (.tmp 0), 26, "files.go:101", #[], none⟩) (v := .pointer (some ⟨p, 0, none⟩)) rfl (by kernel_rfl) (by kernel_rfl) (by kernel_rfl) (fun _ _ _ h => h) (Or.inl ⟨by rfl, fun w hSw => by obtain ⟨z0, z1, z2⟩ := hSw; go_simp⟩) (by assumption) ?_
  try simp only [Act.put, stA, stB, stC]
  refine wpAnyH_take (i := 1) (oi := ⟨some 4, .nilCheck (.tmp 3), 0, "files.go:101", #[⟨0, .data⟩], none⟩) (v := .pointer (some ⟨p, 0, none⟩)) rfl (by kernel_rfl) (by kernel_rfl) (by kernel_rfl) (fun _ _ _ h => h) (Or.inl ⟨by rfl, fun w hSw => by go_simp⟩) (by assumption) ?_
  try simp only [Act.put, stA, stB, stC]
  refine wpAnyH_take (i := 2) (oi := ⟨some 5, .fieldAddr 82 (.tmp 4) 0, 0, "files.go:101", #[⟨1, .data⟩], none⟩) (v := .pointer (some ⟨p, 0, none⟩)) rfl (by kernel_rfl) (by kernel_rfl) (by kernel_rfl) (fun _ _ _ h => h) (Or.inl ⟨by rfl, fun w hSw => by go_simp⟩) (by assumption) ?_
  try simp only [Act.put, stA, stB, stC]
  refine wpAnyH_take (i := 3) (oi := ⟨some 6, .load 24 (.tmp 5), 24, "files.go:101", #[⟨2, .data⟩], none⟩) (v := .pointer (some ⟨q, 0, none⟩)) rfl (by kernel_rfl) (by kernel_rfl) (by kernel_rfl) (fun _ _ _ h => h) (Or.inl ⟨by rfl, fun w hSw => by obtain ⟨z0, z1, z2⟩ := hSw; go_simp⟩) (by assumption) ?_
  try simp only [Act.put, stA, stB, stC]
  refine wpAnyH_take (i := 4) (oi := ⟨some 7, .load 9 (.tmp 1), 9, "files.go:101", #[], none⟩) (v := .string (str nm)) rfl (by kernel_rfl) (by kernel_rfl) (by kernel_rfl) (fun _ _ _ h => h) (Or.inl ⟨by rfl, fun w hSw => by obtain ⟨z0, z1, z2⟩ := hSw; go_simp⟩) (by assumption) ?_
  try simp only [Act.put, stA, stB, stC]
  refine wpAnyH_ready (rs := [5]) (by kernel_rfl) (by simp) ?_
  refine AllReadyH.cons (o := ⟨some 8, .call ⟨.value (.func 34), #[.tmp 6, .tmp 7], #[24, 9]⟩, 27, "files.go:101", #[⟨3, .data⟩, ⟨4, .data⟩], none⟩) rfl (fun K hK => ?_) AllReadyH.nil
  go_simp
  refine HC.out.mono ?_
  rintro e w2 ⟨rfl, T2, b2, R2, X2⟩
  have H2 := Lib.hid (And.intro R2 X2)
  refine hK.out _ _ (HK.out _ _ X2) (fun hHeld => ?_)
  clear hK K
  try simp only [Act.put, stA, stB, stC]
  clear R2 X2
  refine wpAnyH_take (i := 6) (oi := ⟨some 2, .assign (.tmp 8), 27, "files.go:101", #[⟨5, .data⟩, ⟨5, .chain⟩, ⟨0, .phase⟩, ⟨1, .phase⟩, ⟨2, .phase⟩, ⟨3, .phase⟩, ⟨4, .phase⟩, ⟨5, .phase⟩], none⟩) (v := .int .i64 (co : Int)) rfl (by kernel_rfl) (by kernel_rfl) (by kernel_rfl) (fun _ _ _ h => h) (Or.inl ⟨by rfl, fun w hSw => by go_simp⟩) (by assumption) ?_
  try simp only [Act.put, stA, stB, stC]
  refine wpAnyH_done (by kernel_rfl) ?_ _
  try unfold NoPanic
  go_wp2
  go_ret
  exact ⟨rfl, T2, b2, H2.out.1, HX.out.trans H2.out.2⟩
set_option maxHeartbeats 1000000 in
theorem cl106_any (w : World) (T : Nat → Tag) (q : Nat) (m : M) (p xc : Nat) (R : Rep w T q m) (hd : m.done < 1000000) (hxc : w.cell? ⟨xc, 0, none⟩ = some (.pointer (some ⟨p, 0, none⟩))) (txc : T xc = .none) (hp0 : w.cell? ⟨p, 0, none⟩ = some (.pointer (some ⟨q, 0, none⟩))) (tp : T p = .none) (nm : S) (hnm : nm.length ≤ 1000) (A : Option Addr) (c n : Nat) (bs : S) (hn : n = bs.length) (hbs : RdN w T A bs) (hA : A = none → c = 0) (hbl : bs.length ≤ 1000000) (hroom : -1000000000000 ≤ m.room) (xn : Nat) (hxn : w.cell? ⟨xn, 0, none⟩ = some (.string (str nm))) (txn : T xn = .none) (xp : Nat) (hxp : w.cell? ⟨xp, 0, none⟩ = some (.slice A n c)) (txp : T xp = .none) :
    Calls Tryz.prog 106 #[.pointer (some ⟨xc, 0, none⟩), .pointer (some ⟨xn, 0, none⟩), .pointer (some ⟨xp, 0, none⟩)] w fun e w' => e = .returned (.int .i64 (m.appendE nm bs : Int)) ∧ ∃ T', Rep w' T' q (m.append nm bs) ∧ Ext w T w' T' := by
  have hc : ∀ W, Rep W T q m → Below w.heap.size w W → Calls Tryz.prog 35 #[.pointer (some ⟨q, 0, none⟩), .string (str nm), .slice A n c] W fun e w' => e = .returned (.int .i64 (m.appendE nm bs : Int)) ∧ ∃ T', Rep w' T' q (m.append nm bs) ∧ Ext W T w' T' := fun W RW hW => by have c9 := append_rep W T q m nm bs A c RW (by omega) hnm (rdn_below hbs hW) hA (by omega) hroom; rw [← hn] at c9; exact c9
  obtain ⟨co, hco⟩ : ∃ n : Nat, n = m.appendE nm bs := ⟨_, rfl⟩
  rw [← hco] at hc ⊢
  have HC := Lib.hid (hc w.drew (R.below ((Below.refl _ _).drew)) ((Below.refl _ _).drew))
  have HX := Lib.hid (show Ext w T w.drew T from ⟨rfl, rfl, rfl, Nat.le_refl _, fun _ _ => rfl, fun _ _ _ => rfl⟩)
  have HK : Hid (∀ w2 T2, Ext w.drew T w2 T2 → (w2.cell? ⟨xc, 0, none⟩ = some (.pointer (some ⟨p, 0, none⟩)) ∧ w2.cell? ⟨p, 0, none⟩ = some (.pointer (some ⟨q, 0, none⟩)) ∧ w2.cell? ⟨xn, 0, none⟩ = some (.string (str nm)) ∧ w2.cell? ⟨xp, 0, none⟩ = some (.slice A n c))) := fun w2 T2 X => ⟨(World.cell?_of_block (a := ⟨xc, 0, none⟩) (X.block xc (block_lt_of_cell (a := ⟨xc, 0, none⟩) hxc) txc)).trans hxc, (World.cell?_of_block (a := ⟨p, 0, none⟩) (X.block p (block_lt_of_cell (a := ⟨p, 0, none⟩) hp0) tp)).trans hp0, (World.cell?_of_block (a := ⟨xn, 0, none⟩) (X.block xn (block_lt_of_cell (a := ⟨xn, 0, none⟩) hxn) txn)).trans hxn, (World.cell?_of_block (a := ⟨xp, 0, none⟩) (X.block xp (block_lt_of_cell (a := ⟨xp, 0, none⟩) hxp) txp)).trans hxp⟩
  have hS : (fun y : World => y.cell? ⟨xc, 0, none⟩ = some (.pointer (some ⟨p, 0, none⟩)) ∧ y.cell? ⟨p, 0, none⟩ = some (.pointer (some ⟨q, 0, none⟩)) ∧ y.cell? ⟨xn, 0, none⟩ = some (.string (str nm)) ∧ y.cell? ⟨xp, 0, none⟩ = some (.slice A n c)) w.drew := ⟨hxc, hp0, hxn, hxp⟩
  clear hc R hd hco hxc hp0 hxn hxp hn hbs hA hbl hroom hnm
  go_enter Tryz.func106, Tryz.ntmps106
  go_upto_region 1 with (fail)
  refine wp_region_noPanic ?_
  refine wp_region_held_drew (S := fun y : World => y.cell? ⟨xc, 0, none⟩ = some (.pointer (some ⟨p, 0, none⟩)) ∧ y.cell? ⟨p, 0, none⟩ = some (.pointer (some ⟨q, 0, none⟩)) ∧ y.cell? ⟨xn, 0, none⟩ = some (.string (str nm)) ∧ y.cell? ⟨xp, 0, none⟩ = some (.slice A n c)) (by kernel_rfl) hS (fun hHeld => ?_)
  generalize w.drew = wd at *
  refine wpAnyH_take (i := 0) (oi := ⟨some 4, .load 26 (.tmp 0), 26, "files.go:102", #[], none⟩) (v := .pointer (some ⟨p, 0, none⟩)) rfl (by kernel_rfl) (by kernel_rfl) (by kernel_rfl) (fun _ _ _ h => h) (Or.inl ⟨by rfl, fun w hSw => by obtain ⟨z0, z1, z2, z3⟩ := hSw; go_simp⟩) (by assumption) ?_
  try simp only [Act.put, stA, stB, stC]
  refine wpAnyH_take (i := 1) (oi := ⟨some 5, .nilCheck (.tmp 4), 0, "files.go:102", #[⟨0, .data⟩], none⟩) (v := .pointer (some ⟨p, 0, none⟩)) rfl (by kernel_rfl) (by kernel_rfl) (by kernel_rfl) (fun _ _ _ h => h) (Or.inl ⟨by rfl, fun w hSw => by go_simp⟩) (by assumption) ?_
  try simp only [Act.put, stA, stB, stC]
  refine wpAnyH_take (i := 2) (oi := ⟨some 6, .fieldAddr 82 (.tmp 5) 0, 0, "files.go:102", #[⟨1, .data⟩], none⟩) (v := .pointer (some ⟨p, 0, none⟩)) rfl (by kernel_rfl) (by kernel_rfl) (by kernel_rfl) (fun _ _ _ h => h) (Or.inl ⟨by rfl, fun w hSw => by go_simp⟩) (by assumption) ?_
  try simp only [Act.put, stA, stB, stC]
  refine wpAnyH_take (i := 3) (oi := ⟨some 7, .load 24 (.tmp 6), 24, "files.go:102", #[⟨2, .data⟩], none⟩) (v := .pointer (some ⟨q, 0, none⟩)) rfl (by kernel_rfl) (by kernel_rfl) (by kernel_rfl) (fun _ _ _ h => h) (Or.inl ⟨by rfl, fun w hSw => by obtain ⟨z0, z1, z2, z3⟩ := hSw; go_simp⟩) (by assumption) ?_
  try simp only [Act.put, stA, stB, stC]
  refine wpAnyH_take (i := 4) (oi := ⟨some 8, .load 9 (.tmp 1), 9, "files.go:102", #[], none⟩) (v := .string (str nm)) rfl (by kernel_rfl) (by kernel_rfl) (by kernel_rfl) (fun _ _ _ h => h) (Or.inl ⟨by rfl, fun w hSw => by obtain ⟨z0, z1, z2, z3⟩ := hSw; go_simp⟩) (by assumption) ?_
  try simp only [Act.put, stA, stB, stC]
  refine wpAnyH_take (i := 5) (oi := ⟨some 9, .load 30 (.tmp 2), 30, "files.go:102", #[], none⟩) (v := .slice A n c) rfl (by kernel_rfl) (by kernel_rfl) (by kernel_rfl) (fun _ _ _ h => h) (Or.inl ⟨by rfl, fun w hSw => by obtain ⟨z0, z1, z2, z3⟩ := hSw; go_simp⟩) (by assumption) ?_
  try simp only [Act.put, stA, stB, stC]
  refine wpAnyH_ready (rs := [6]) (by kernel_rfl) (by simp) ?_
  refine AllReadyH.cons (o := ⟨some 10, .call ⟨.value (.func 35), #[.tmp 7, .tmp 8, .tmp 9], #[24, 9, 30]⟩, 27, "files.go:102", #[⟨3, .data⟩, ⟨4, .data⟩, ⟨5, .data⟩], none⟩) rfl (fun K hK => ?_) AllReadyH.nil
  go_simp
  refine HC.out.mono ?_
  rintro e w2 ⟨rfl, T2, R2, X2⟩
  have H2 := Lib.hid (And.intro R2 X2)
  refine hK.out _ _ (HK.out _ _ X2) (fun hHeld => ?_)
  clear hK K
  try simp only [Act.put, stA, stB, stC]
  clear R2 X2
  refine wpAnyH_take (i := 7) (oi := ⟨some 3, .assign (.tmp 10), 27, "files.go:102", #[⟨6, .data⟩, ⟨6, .chain⟩, ⟨0, .phase⟩, ⟨1, .phase⟩, ⟨2, .phase⟩, ⟨3, .phase⟩, ⟨4, .phase⟩, ⟨5, .phase⟩, ⟨6, .phase⟩], none⟩) (v := .int .i64 (co : Int)) rfl (by kernel_rfl) (by kernel_rfl) (by kernel_rfl) (fun _ _ _ h => h) (Or.inl ⟨by rfl, fun w hSw => by go_simp⟩) (by assumption) ?_
  try simp only [Act.put, stA, stB, stC]
  refine wpAnyH_done (by kernel_rfl) ?_ _
  try unfold NoPanic
  go_wp2
  go_ret
  exact ⟨rfl, T2, H2.out.1, HX.out.trans H2.out.2⟩
set_option maxHeartbeats 1000000 in
theorem cl107_any (w : World) (T : Nat → Tag) (q : Nat) (m : M) (p xc : Nat) (R : Rep w T q m) (hd : m.done < 1000000) (hxc : w.cell? ⟨xc, 0, none⟩ = some (.pointer (some ⟨p, 0, none⟩))) (txc : T xc = .none) (hp0 : w.cell? ⟨p, 0, none⟩ = some (.pointer (some ⟨q, 0, none⟩))) (tp : T p = .none) (nm : S) (hnm : nm.length ≤ 1000) (xn : Nat) (hxn : w.cell? ⟨xn, 0, none⟩ = some (.string (str nm))) (txn : T xn = .none) :
    Calls Tryz.prog 107 #[.pointer (some ⟨xc, 0, none⟩), .pointer (some ⟨xn, 0, none⟩)] w fun e w' => e = .returned (.int .i64 (m.onE nm : Int)) ∧ ∃ T', Rep w' T' q (m.sync nm) ∧ Ext w T w' T' := by
  have hc : ∀ W, Rep W T q m → Below w.heap.size w W → Calls Tryz.prog 52 #[.pointer (some ⟨q, 0, none⟩), .string (str nm)] W fun e w' => e = .returned (.int .i64 (m.onE nm : Int)) ∧ ∃ T', Rep w' T' q (m.sync nm) ∧ Ext W T w' T' := fun W RW hW => sync_rep W T q m nm RW (by omega) hnm
  obtain ⟨co, hco⟩ : ∃ n : Nat, n = m.onE nm := ⟨_, rfl⟩
  rw [← hco] at hc ⊢
  have HC := Lib.hid (hc w.drew (R.below ((Below.refl _ _).drew)) ((Below.refl _ _).drew))
  have HX := Lib.hid (show Ext w T w.drew T from ⟨rfl, rfl, rfl, Nat.le_refl _, fun _ _ => rfl, fun _ _ _ => rfl⟩)
  have HK : Hid (∀ w2 T2, Ext w.drew T w2 T2 → (w2.cell? ⟨xc, 0, none⟩ = some (.pointer (some ⟨p, 0, none⟩)) ∧ w2.cell? ⟨p, 0, none⟩ = some (.pointer (some ⟨q, 0, none⟩)) ∧ w2.cell? ⟨xn, 0, none⟩ = some (.string (str nm)))) := fun w2 T2 X => ⟨(World.cell?_of_block (a := ⟨xc, 0, none⟩) (X.block xc (block_lt_of_cell (a := ⟨xc, 0, none⟩) hxc) txc)).trans hxc, (World.cell?_of_block (a := ⟨p, 0, none⟩) (X.block p (block_lt_of_cell (a := ⟨p, 0, none⟩) hp0) tp)).trans hp0, (World.cell?_of_block (a := ⟨xn, 0, none⟩) (X.block xn (block_lt_of_cell (a := ⟨xn, 0, none⟩) hxn) txn)).trans hxn⟩
  have hS : (fun y : World => y.cell? ⟨xc, 0, none⟩ = some (.pointer (some ⟨p, 0, none⟩)) ∧ y.cell? ⟨p, 0, none⟩ = some (.pointer (some ⟨q, 0, none⟩)) ∧ y.cell? ⟨xn, 0, none⟩ = some (.string (str nm))) w.drew := ⟨hxc, hp0, hxn⟩
  clear hc R hd hco hxc hp0 hxn hnm
  go_enter Tryz.func107, Tryz.ntmps107
  go_upto_region 1 with (fail)
  refine wp_region_noPanic ?_
  refine wp_region_held_drew (S := fun y : World => y.cell? ⟨xc, 0, none⟩ = some (.pointer (some ⟨p, 0, none⟩)) ∧ y.cell? ⟨p, 0, none⟩ = some (.pointer (some ⟨q, 0, none⟩)) ∧ y.cell? ⟨xn, 0, none⟩ = some (.string (str nm))) (by kernel_rfl) hS (fun hHeld => ?_)
  generalize w.drew = wd at *
  refine wpAnyH_take (i := 0) (oi := ⟨some 3, .load 26 (.tmp 0), 26, "files.go:103", #[], none⟩) (v := .pointer (some ⟨p, 0, none⟩)) rfl (by kernel_rfl) (by kernel_rfl) (by kernel_rfl) (fun _ _ _ h => h) (Or.inl ⟨by rfl, fun w hSw => by obtain ⟨z0, z1, z2⟩ := hSw; go_simp⟩) (by assumption) ?_
  try simp only [Act.put, stA, stB, stC]
  refine wpAnyH_take (i := 1) (oi := ⟨some 4, .nilCheck (.tmp 3), 0, "files.go:103", #[⟨0, .data⟩], none⟩) (v := .pointer (some ⟨p, 0, none⟩)) rfl (by kernel_rfl) (by kernel_rfl) (by kernel_rfl) (fun _ _ _ h => h) (Or.inl ⟨by rfl, fun w hSw => by go_simp⟩) (by assumption) ?_
  try simp only [Act.put, stA, stB, stC]
  refine wpAnyH_take (i := 2) (oi := ⟨some 5, .fieldAddr 82 (.tmp 4) 0, 0, "files.go:103", #[⟨1, .data⟩], none⟩) (v := .pointer (some ⟨p, 0, none⟩)) rfl (by kernel_rfl) (by kernel_rfl) (by kernel_rfl) (fun _ _ _ h => h) (Or.inl ⟨by rfl, fun w hSw => by go_simp⟩) (by assumption) ?_
  try simp only [Act.put, stA, stB, stC]
  refine wpAnyH_take (i := 3) (oi := ⟨some 6, .load 24 (.tmp 5), 24, "files.go:103", #[⟨2, .data⟩], none⟩) (v := .pointer (some ⟨q, 0, none⟩)) rfl (by kernel_rfl) (by kernel_rfl) (by kernel_rfl) (fun _ _ _ h => h) (Or.inl ⟨by rfl, fun w hSw => by obtain ⟨z0, z1, z2⟩ := hSw; go_simp⟩) (by assumption) ?_
  try simp only [Act.put, stA, stB, stC]
  refine wpAnyH_take (i := 4) (oi := ⟨some 7, .load 9 (.tmp 1), 9, "files.go:103", #[], none⟩) (v := .string (str nm)) rfl (by kernel_rfl) (by kernel_rfl) (by kernel_rfl) (fun _ _ _ h => h) (Or.inl ⟨by rfl, fun w hSw => by obtain ⟨z0, z1, z2⟩ := hSw; go_simp⟩) (by assumption) ?_
  try simp only [Act.put, stA, stB, stC]
  refine wpAnyH_ready (rs := [5]) (by kernel_rfl) (by simp) ?_
  refine AllReadyH.cons (o := ⟨some 8, .call ⟨.value (.func 52), #[.tmp 6, .tmp 7], #[24, 9]⟩, 27, "files.go:103", #[⟨3, .data⟩, ⟨4, .data⟩], none⟩) rfl (fun K hK => ?_) AllReadyH.nil
  go_simp
  refine HC.out.mono ?_
  rintro e w2 ⟨rfl, T2, R2, X2⟩
  have H2 := Lib.hid (And.intro R2 X2)
  refine hK.out _ _ (HK.out _ _ X2) (fun hHeld => ?_)
  clear hK K
  try simp only [Act.put, stA, stB, stC]
  clear R2 X2
  refine wpAnyH_take (i := 6) (oi := ⟨some 2, .assign (.tmp 8), 27, "files.go:103", #[⟨5, .data⟩, ⟨5, .chain⟩, ⟨0, .phase⟩, ⟨1, .phase⟩, ⟨2, .phase⟩, ⟨3, .phase⟩, ⟨4, .phase⟩, ⟨5, .phase⟩], none⟩) (v := .int .i64 (co : Int)) rfl (by kernel_rfl) (by kernel_rfl) (by kernel_rfl) (fun _ _ _ h => h) (Or.inl ⟨by rfl, fun w hSw => by go_simp⟩) (by assumption) ?_
  try simp only [Act.put, stA, stB, stC]
  refine wpAnyH_done (by kernel_rfl) ?_ _
  try unfold NoPanic
  go_wp2
  go_ret
  exact ⟨rfl, T2, H2.out.1, HX.out.trans H2.out.2⟩
end Go.Proofs.YtdbhgkbmbbjpdaaGreatDoor.Chr
