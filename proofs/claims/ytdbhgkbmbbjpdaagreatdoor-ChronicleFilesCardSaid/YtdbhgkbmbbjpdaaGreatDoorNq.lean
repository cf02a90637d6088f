/- Sync. -/
import Derived.Test.YtdbhgkbmbbjpdaaGreatDoorNp
namespace Go.Proofs.YtdbhgkbmbbjpdaaGreatDoor.Chr
variable {lo : Nat}
open Go.ChangeShapes Go.WideShapes Go.ChangeAt Go.RowKit
open Shf (S str)
open Coin (Rd Row Own sz coin got Pur takeV endV CoinSaid)
open Frm (pack err size kind cnt body noItem itemV OneSaid)
set_option maxRecDepth 8000
set_option linter.unusedVariables false
open Shf (Tag Ext Rep M RdN)
def syM (c : CD) (m : M) : Nat × M := match c.vols.getLast? with
  | none => (0, m)
  | some d => (m.onE (vName d.no), m.sync (vName d.no))
set_option maxHeartbeats 2000000 in
theorem sync_any (w : World) (T : Nat → Tag) (p q : Nat) (m : M) (c : CD) (R : Rep w T q m) (h : CAt lo w T p q c) (hs : c.Small) (hv : ∀ d ∈ c.vols, d.no < 100) (hd : m.done < 700000) :
    Calls Tryz.prog 23 #[.pointer (some ⟨p, 0, none⟩)] w fun e w' => ∃ T', e = .returned (.int .i64 ((syM c m).1 : Int)) ∧ Rep w' T' q (syM c m).2 ∧ Ext w T w' T' := by
  obtain ⟨bA, bc, vv, gv, h⟩ := h
  by_cases h0 : c.vols = []
  · have hM : syM c m = (0, m) := by unfold syM; rw [h0]; rfl
    rw [hM]
    obtain ⟨A, cap, rfl⟩ := h.nil
    have hr := h.row
    unfold cC at hr
    rw [h0] at hr
    obtain ⟨p0, p1, p2, p3, p4, p5, p6, p7, fz⟩ := row8 hr
    have HR := Lib.hid R
    clear h hM R hs hv h0 hd hr
    go_enter Tryz.func23, Tryz.ntmps23
    go_wp2
    go_ret
    exact ⟨T, rfl, HR.out, Ext.refl w T⟩
  · have hn : 0 < c.vols.length := List.length_pos_iff.2 h0
    obtain ⟨g, off, cap, lv, gl, rfl, rfl, hle, VA⟩ := h.vs.at (c.vols.length - 1) (by omega)
    have hl := getLast_at c.vols hn
    obtain ⟨d, hdd⟩ : ∃ d, d = c.vols[c.vols.length - 1]'(by omega) := ⟨_, rfl⟩
    rw [← hdd] at VA hl
    have hdv : d.no < 100 := hv d (by rw [hdd]; exact List.getElem_mem _)
    have hM : syM c m = (m.onE (vName d.no), m.sync (vName d.no)) := by unfold syM; rw [hl]
    rw [hM]
    have c49 : ∀ y, Below w.heap.size w y → Calls Tryz.prog 49 #[.pointer (some ⟨p, 0, none⟩)] y fun e w' => e = .returned (.pointer (some ⟨g, off + (c.vols.length - 1) * 4, none⟩)) ∧ Below y.heap.size y w' := fun y hy => last_any y T p q c bA bc g off cap (some g) (h.keep (kp_below hy T)) hn hs.n
    have hr := h.row
    unfold cC at hr
    obtain ⟨n, hnn⟩ : ∃ n, n = c.vols.length := ⟨_, rfl⟩
    rw [← hnn] at hr c49 hn VA
    obtain ⟨p0, p1, p2, p3, p4, p5, p6, p7, fz⟩ := row8 hr
    obtain ⟨o9, ho9⟩ : ∃ o, o = off + (n - 1) * 4 := ⟨_, rfl⟩
    rw [← ho9] at c49 VA
    have hn0 : ¬ (n : Int) = 0 := by omega
    have k0 := VA.k0
    have hgl : g < w.heap.size := block_lt_of_cell (a := ⟨g, o9, none⟩) k0
    have HK : Hid (∀ y, Below w.heap.size w y → y.cell? ⟨g, o9, none⟩ = some (.int .u64 (d.no : Int))) := fun y hy => (World.cell?_of_block (a := ⟨g, o9, none⟩) (hy.block g hgl)).trans k0
    have HS : Hid (∀ y, Below w.heap.size w y → Calls Tryz.prog 52 #[.pointer (some ⟨q, 0, none⟩), .string (str (vName d.no))] y fun e w' => e = .returned (.int .i64 (m.onE (vName d.no) : Int)) ∧ ∃ T', Rep w' T' q (m.sync (vName d.no)) ∧ Ext y T w' T') := fun y hy => Shf.sync_rep y T q m (vName d.no) (R.below hy) (by omega) (vName_le _ hdv)
    have HD := Lib.hid hdv
    have hp0 : ∀ y, Below w.heap.size w y → y.cell? ⟨p, 0, none⟩ = some (.pointer (some ⟨q, 0, none⟩)) := fun y hy => (World.cell?_of_block (a := ⟨p, 0, none⟩) (hy.block p (Array.getElem?_eq_some_iff.1 hr).1)).trans p0
    have HC : Hid (∀ y, Below w.heap.size w y → y.cell? ⟨p, 0, none⟩ = some (.pointer (some ⟨q, 0, none⟩)) ∧ y.cell? ⟨g, o9, none⟩ = some (.int .u64 (d.no : Int))) := fun y hy => ⟨hp0 y hy, HK.out y hy⟩
    have tg : T g = .none := by obtain ⟨vs, _, _, h3, _⟩ := h.vs; exact h3 g rfl
    have HX : Hid (∀ y y' T', Below w.heap.size w y → Ext y T y' T' → y'.cell? ⟨p, 0, none⟩ = some (.pointer (some ⟨q, 0, none⟩)) ∧ y'.cell? ⟨g, o9, none⟩ = some (.int .u64 (d.no : Int))) := fun y y' T' hy X =>
      ⟨(World.cell?_of_block (a := ⟨p, 0, none⟩) (X.block p (Nat.lt_of_lt_of_le (Array.getElem?_eq_some_iff.1 hr).1 hy.size) h.tp)).trans (hp0 y hy), (World.cell?_of_block (a := ⟨g, o9, none⟩) (X.block g (Nat.lt_of_lt_of_le hgl hy.size) tg)).trans (HK.out y hy)⟩
    have HBW := Lib.hid ((Below.refl w.heap.size w).drew)
    obtain ⟨co, hco⟩ : ∃ o : Nat, o = m.onE (vName d.no) := ⟨_, rfl⟩
    rw [← hco] at HS ⊢
    have HL := Lib.hid c49
    clear c49 hp0 tg hco HK h R hs hv hd h0 hl hdd hM hnn ho9 VA k0 hdv hn hr hgl hle
    go_enter Tryz.func23, Tryz.ntmps23
    go_upto_region 5 with (fail)
    refine wp_region_noPanic ?_
    refine wp_region_held_drew (S := fun y : World => y.cell? ⟨p, 0, none⟩ = some (.pointer (some ⟨q, 0, none⟩)) ∧ y.cell? ⟨g, o9, none⟩ = some (.int .u64 (d.no : Int))) (by kernel_rfl) (HC.out w.drew HBW.out) (fun hHeld => ?_)
    generalize w.drew = wd at *
    refine wpAnyH_take (i := 0) (oi := ⟨some 13, .move (.tmp 0), 26, "chronicle.go:139", #[], none⟩) (v := .pointer (some ⟨p, 0, none⟩)) rfl (by kernel_rfl) (by kernel_rfl) (by kernel_rfl) (fun _ _ _ h => h) (Or.inl ⟨by rfl, fun w hSw => by go_simp⟩) (by assumption) ?_
    try simp only [Act.put, stA, stB, stC]
    refine wpAnyH_take (i := 1) (oi := ⟨some 14, .nilCheck (.tmp 13), 0, "chronicle.go:139", #[⟨0, .data⟩], none⟩) (v := .pointer (some ⟨p, 0, none⟩)) rfl (by kernel_rfl) (by kernel_rfl) (by kernel_rfl) (fun _ _ _ h => h) (Or.inl ⟨by rfl, fun w hSw => by go_simp⟩) (by assumption) ?_
    try simp only [Act.put, stA, stB, stC]
    refine wpAnyH_take (i := 2) (oi := ⟨some 15, .fieldAddr 82 (.tmp 14) 0, 0, "chronicle.go:139", #[⟨1, .data⟩], none⟩) (v := .pointer (some ⟨p, 0, none⟩)) rfl (by kernel_rfl) (by kernel_rfl) (by kernel_rfl) (fun _ _ _ h => h) (Or.inl ⟨by rfl, fun w hSw => by go_simp⟩) (by assumption) ?_
    try simp only [Act.put, stA, stB, stC]
    refine wpAnyH_take (i := 3) (oi := ⟨some 16, .load 24 (.tmp 15), 24, "chronicle.go:139", #[⟨2, .data⟩], none⟩) (v := .pointer (some ⟨q, 0, none⟩)) rfl (by kernel_rfl) (by kernel_rfl) (by kernel_rfl) (fun _ _ _ h => h) (Or.inl ⟨by rfl, fun w hSw => by obtain ⟨z0, z1⟩ := hSw; go_simp⟩) (by assumption) ?_
    try simp only [Act.put, stA, stB, stC]
    refine wpAnyH_take (i := 4) (oi := ⟨some 17, .move (.tmp 0), 26, "chronicle.go:139", #[], none⟩) (v := .pointer (some ⟨p, 0, none⟩)) rfl (by kernel_rfl) (by kernel_rfl) (by kernel_rfl) (fun _ _ _ h => h) (Or.inl ⟨by rfl, fun w hSw => by go_simp⟩) (by assumption) ?_
    try simp only [Act.put, stA, stB, stC]
    refine wpAnyH_ready (rs := [5]) (by kernel_rfl) (by simp) ?_
    refine AllReadyH.cons (o := ⟨some 18, .call ⟨.value (.func 49), #[.tmp 17], #[26]⟩, 89, "chronicle.go:139", #[⟨4, .data⟩], none⟩) rfl (fun K hK => ?_) AllReadyH.nil
    go_simp
    refine (HL.out wd HBW.out).mono ?_
    rintro e wd ⟨rfl, B2⟩
    replace HBW := Lib.hid (HBW.out.trans (B2.mono HBW.out.size))
    clear B2
    refine hK.out _ _ (HC.out wd HBW.out) (fun hHeld => ?_)
    clear hK K
    try simp only [Act.put, stA, stB, stC]
    skip
    refine wpAnyH_take (i := 6) (oi := ⟨some 19, .nilCheck (.tmp 18), 0, "chronicle.go:139", #[⟨5, .data⟩], none⟩) (v := .pointer (some ⟨g, o9, none⟩)) rfl (by kernel_rfl) (by kernel_rfl) (by kernel_rfl) (fun _ _ _ h => h) (Or.inl ⟨by rfl, fun w hSw => by go_simp⟩) (by assumption) ?_
    try simp only [Act.put, stA, stB, stC]
    refine wpAnyH_take (i := 7) (oi := ⟨some 20, .fieldAddr 60 (.tmp 19) 0, 0, "chronicle.go:139", #[⟨6, .data⟩], none⟩) (v := .pointer (some ⟨g, o9, none⟩)) rfl (by kernel_rfl) (by kernel_rfl) (by kernel_rfl) (fun _ _ _ h => h) (Or.inl ⟨by rfl, fun w hSw => by go_simp⟩) (by assumption) ?_
    try simp only [Act.put, stA, stB, stC]
    refine wpAnyH_take (i := 8) (oi := ⟨some 21, .load 42 (.tmp 20), 42, "chronicle.go:139", #[⟨7, .data⟩], none⟩) (v := .int .u64 (d.no : Int)) rfl (by kernel_rfl) (by kernel_rfl) (by kernel_rfl) (fun _ _ _ h => h) (Or.inl ⟨by rfl, fun w hSw => by obtain ⟨z0, z1⟩ := hSw; go_simp⟩) (by assumption) ?_
    try simp only [Act.put, stA, stB, stC]
    refine wpAnyH_ready (rs := [9]) (by kernel_rfl) (by simp) ?_
    refine AllReadyH.cons (o := ⟨some 22, .call ⟨.value (.func 26), #[.tmp 21], #[42]⟩, 9, "chronicle.go:139", #[⟨8, .data⟩, ⟨5, .chain⟩], none⟩) rfl (fun K hK => ?_) AllReadyH.nil
    go_simp
    refine (name_any wd d.no HD.out).mono ?_
    rintro e wx ⟨rfl, rfl⟩
    refine hK.out _ _ (hHeld) (fun hHeld => ?_)
    clear hK K
    try simp only [Act.put, stA, stB, stC]
    skip
    refine wpAnyH_ready (rs := [10]) (by kernel_rfl) (by simp) ?_
    refine AllReadyH.cons (o := ⟨some 23, .call ⟨.value (.func 52), #[.tmp 16, .tmp 22], #[24, 9]⟩, 27, "chronicle.go:139", #[⟨3, .data⟩, ⟨9, .data⟩, ⟨9, .chain⟩], none⟩) rfl (fun K hK => ?_) AllReadyH.nil
    go_simp
    refine (HS.out wd HBW.out).mono ?_
    rintro e w2 ⟨rfl, T2, R2, X2⟩
    have H2 := Lib.hid (And.intro R2 ((ext_below HBW.out T).trans X2))
    have hq := HX.out wd w2 T2 HBW.out X2
    clear R2 X2
    refine hK.out _ _ (hq) (fun hHeld => ?_)
    clear hK K
    try simp only [Act.put, stA, stB, stC]
    clear hq
    refine wpAnyH_take (i := 11) (oi := ⟨some 2, .assign (.tmp 23), 27, "chronicle.go:139", #[⟨10, .data⟩, ⟨10, .chain⟩, ⟨0, .phase⟩, ⟨1, .phase⟩, ⟨2, .phase⟩, ⟨3, .phase⟩, ⟨4, .phase⟩, ⟨5, .phase⟩, ⟨6, .phase⟩, ⟨7, .phase⟩, ⟨8, .phase⟩, ⟨9, .phase⟩, ⟨10, .phase⟩], none⟩) (v := .int .i64 (co : Int)) rfl (by kernel_rfl) (by kernel_rfl) (by kernel_rfl) (fun _ _ _ h => h) (Or.inl ⟨by rfl, fun w hSw => by go_simp⟩) (by assumption) ?_
    try simp only [Act.put, stA, stB, stC]
    refine wpAnyH_done (by kernel_rfl) ?_ _
    try unfold NoPanic
    go_wp2
    go_ret
    exact ⟨T2, rfl, H2.out⟩
end Go.Proofs.YtdbhgkbmbbjpdaaGreatDoor.Chr
