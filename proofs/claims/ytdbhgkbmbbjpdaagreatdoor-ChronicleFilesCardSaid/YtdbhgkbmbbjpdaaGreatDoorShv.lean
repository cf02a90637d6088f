/- What a shelf's acts do in memory: Rename, Delete. -/
import Derived.Test.YtdbhgkbmbbjpdaaGreatDoorShu
import Derived.Laws.IdiomStrings
namespace Go.Proofs.YtdbhgkbmbbjpdaaGreatDoor.Shf
open Go.ChangeShapes Go.WideShapes Go.ChangeAt Go.RowKit
theorem str_toList (l : List UInt8) : (str l).toList = l := by rw [ByteArray.toList_eq]; rfl
set_option maxRecDepth 4000 in
theorem actOn_more (w : World) (T : Nat → Tag) (q : Nat) (m : M) (name : S) (R : Rep w T q m) (hd : m.done < 1000000000) (hl : name.length ≤ 1000) :
    Calls Tryz.prog 66 #[.pointer (some ⟨q, 0, none⟩), .string (str name)] w fun e w' => e = .returned (.tuple #[ptrV (m.onF name), .int .i64 (m.onE name : Int)]) ∧ (∃ nv sv mv nn ns, RepV w' T q m.act nv sv mv nn ns ∧ (m.actE = 0 → nn < m.act.done ∧ ns + m.act.moves.length < m.act.done)) ∧ Ext w T w' T := by
  have c32 := act_more w T q m R hd
  obtain ⟨nm, hnm⟩ : ∃ nm, nm = str name := ⟨_, rfl⟩
  have HL : ∀ w' nv sv mv nn ns, RepV w' T q m.act nv sv mv nn ns → (Instr.lookup 76 nv (.string nm) false).run Tryz.prog w' = .ok (ptrV (get m.now name)) w' ∧ w'.cell? ⟨q, 1, none⟩ = some nv := fun w' nv sv mv nn ns R => by
    have h := R.nm.look (s := name) (by omega)
    rw [(act_now m).1, ← hnm] at h
    exact ⟨h, R.sh.cell 1⟩
  rw [← hnm]
  generalize hP : (fun w' => ∃ nv sv mv nn ns, RepV w' T q m.act nv sv mv nn ns ∧ (m.actE = 0 → nn < m.act.done ∧ ns + m.act.moves.length < m.act.done)) = P
  have c32 : Calls Tryz.prog 45 #[.pointer (some ⟨q, 0, none⟩)] w fun e w' => e = .returned (.int .i64 (m.actE : Int)) ∧ P w' ∧ Ext w T w' T := by rw [← hP]; exact c32
  show Calls Tryz.prog 66 _ w fun e w' => _ ∧ (fun w' => ∃ nv sv mv nn ns, RepV w' T q m.act nv sv mv nn ns ∧ (m.actE = 0 → nn < m.act.done ∧ ns + m.act.moves.length < m.act.done)) w' ∧ _
  rw [hP]
  have HL : ∀ w', P w' → ∃ nv, (Instr.lookup 76 nv (.string nm) false).run Tryz.prog w' = .ok (ptrV (get m.now name)) w' ∧ w'.cell? ⟨q, 1, none⟩ = some nv := fun w' h => by
    rw [← hP] at h
    obtain ⟨nv, sv, mv, nn, ns, RV, _⟩ := h
    exact ⟨nv, HL _ _ _ _ _ _ RV⟩
  clear hP
  rcases onE_cases m name with ⟨h1, h2, h3⟩ | ⟨h1, h2, h3, h4⟩ | ⟨b, h1, h2, h3, h4⟩
  · rw [h1, h2]
    rw [h3] at c32
    simp only [ptrV]
    clear HL hnm h1 h2 h3 R
    go_enter Tryz.func66, Tryz.ntmps66
    go_wp2_with (first | (go_at_call 45; refine c32.mono ?_; rintro e w' ⟨rfl, R', X⟩))
    go_ret2
    exact ⟨rfl, R', X⟩
  · rw [h1, h2]
    rw [h3] at c32
    rw [h4] at HL
    simp only [ptrV] at HL ⊢
    clear hnm h1 h2 h3 h4 R
    have HL := Lib.hid HL
    go_enter Tryz.func66, Tryz.ntmps66
    go_wp2_with (first | (go_at_call 45; refine c32.mono ?_; rintro e w' ⟨rfl, R', X⟩; obtain ⟨nv, y1, y2⟩ := HL.out _ R'))
    go_ret2
    exact ⟨rfl, R', X⟩
  · rw [h1, h2]
    rw [h3] at c32
    rw [h4] at HL
    simp only [ptrV] at HL ⊢
    clear hnm h1 h2 h3 h4 R
    have HL := Lib.hid HL
    go_enter Tryz.func66, Tryz.ntmps66
    go_wp2_with (first | (go_at_call 45; refine c32.mono ?_; rintro e w' ⟨rfl, R', X⟩; obtain ⟨nv, y1, y2⟩ := HL.out _ R'))
    go_ret2
    exact ⟨rfl, R', X⟩
theorem lose_rep (w : World) (T : Nat → Tag) (q : Nat) (m : M) (nv sv mv : Value) (nn ns : Nat) (name : S) (R : RepV w T q m nv sv mv nn ns) (F : Fine m) (hl : name.length ≤ 1000) :
    Calls Tryz.prog 103 #[.pointer (some ⟨q, 0, none⟩), .string (str name)] w fun e w' => e = .returned (.tuple #[]) ∧ RepV w' T q (m.lose name) nv sv mv nn ns ∧ Ext w T w' T := by
  have hby := F.bytes
  refine (lose_any w q m nv sv mv nn name R.sh R.nm (by omega) (fun b hb => ?_) (by omega)).mono ?_
  · have hm := mem_get hb
    have hT := R.lnow _ hm
    obtain ⟨v, k1, k2, _, _⟩ := R.fl b hT
    refine ⟨?_, ⟨v, k1, k2⟩, ?_⟩
    · intro e; subst e; have := R.tq; rw [hT] at this; cases this
    · rw [F.named]; exact tot_le hm
  · rintro e w' ⟨rfl, h1, h2⟩
    obtain ⟨e1, e2, e3, e4, e5⟩ := lose_now m (name := name)
    exact ⟨rfl, R.sh_step (chg_of_grown h2) h1 ⟨e1, e2, e3, e4⟩ (by omega), (chg_of_grown h2).ext (fun k _ e => by rw [e]; exact tag_ne R.tq (by intro h; cases h)) (fun _ _ => rfl)⟩
set_option maxRecDepth 4000 in
theorem delete_rep (w : World) (T : Nat → Tag) (q : Nat) (m : M) (name : S) (R : Rep w T q m) (hd : m.done < 10000000) (hl : name.length ≤ 1000) :
    Calls Tryz.prog 73 #[.pointer (some ⟨q, 0, none⟩), .string (str name)] w fun e w' => e = .returned (.int .i64 (m.onE name : Int)) ∧ ∃ T', Rep w' T' q (m.delete name) ∧ Ext w T w' T' := by
  have c34 := actOn_more w T q m name R (by omega) hl
  have hFn := R.2.delete name
  have hFa := R.2.act
  have hdd := (act_done m).2.1
  have CL := Lib.hid (fun w' nv sv mv nn ns (RV : RepV w' T q m.act nv sv mv nn ns) => lose_rep w' T q m.act nv sv mv nn ns name RV hFa hl)
  have CD := Lib.hid (fun w' nv sv mv nn ns (RV : RepV w' T q (m.act.lose name) nv sv mv nn ns) (hm : nn < m.act.done ∧ ns + m.act.moves.length < m.act.done) => do_rep w' T q (m.act.lose name) nv sv mv nn ns ⟨name, [], none⟩ RV (by rw [(lose_now _ _).2.2.2.2]; omega) (fun b hb => by cases hb) ⟨hl, by simp⟩ (by rw [(lose_now _ _).2.2.2.2]; exact hm.1) (by rw [(lose_now _ _).2.2.2.2, (lose_now _ _).2.2.1]; exact hm.2))
  obtain ⟨nm, hnm⟩ : ∃ nm, nm = str name := ⟨_, rfl⟩
  simp only [mvV, ptrV] at CD
  rw [← hnm] at c34 CL CD ⊢
  rcases onE_cases m name with ⟨h1, h2, h3⟩ | ⟨h1, h2, h3, h4⟩ | ⟨b, h1, h2, h3, h4⟩
  · rw [h1]
    rw [h1, h2] at c34
    rw [show m.delete name = m.act by simp [M.delete, h2]] at hFn ⊢
    simp only [ptrV] at c34
    have HF := Lib.hid hFn
    clear hnm h1 h2 h3 R hFn hFa
    go_enter Tryz.func73, Tryz.ntmps73
    go_wp2_with (first | (go_at_call 66; refine c34.mono ?_; rintro e w' ⟨rfl, ⟨nv, sv, mv, nn, ns, RV, _⟩, X⟩))
    go_ret
    exact ⟨rfl, _, ⟨⟨_, _, _, _, _, RV⟩, HF.out⟩, X⟩
  · rw [h1]
    rw [h1, h2] at c34
    rw [show m.delete name = m.act by simp [M.delete, h2]] at hFn ⊢
    simp only [ptrV] at c34
    have HF := Lib.hid hFn
    clear hnm h1 h2 h3 h4 R hFn hFa
    go_enter Tryz.func73, Tryz.ntmps73
    go_wp2_with (first | (go_at_call 66; refine c34.mono ?_; rintro e w' ⟨rfl, ⟨nv, sv, mv, nn, ns, RV, _⟩, X⟩))
    go_ret
    exact ⟨rfl, _, ⟨⟨_, _, _, _, _, RV⟩, HF.out⟩, X⟩
  · rw [h1]
    rw [h1, h2] at c34
    rw [show m.delete name = (m.act.lose name).mv ⟨name, [], none⟩ by simp [M.delete, h2]] at hFn ⊢
    simp only [ptrV] at c34
    have HF := Lib.hid hFn
    have HZ := Lib.hid h3
    clear hnm h1 h2 h3 h4 R hFn hFa
    go_enter Tryz.func73, Tryz.ntmps73
    go_wp2_with (first
      | (go_at_call 66; refine c34.mono ?_; rintro e w' ⟨rfl, ⟨nv, sv, mv, nn, ns, RV, hmore⟩, X⟩; have cl := CL.out _ _ _ _ _ _ RV)
      | (go_at_call 103; refine cl.mono ?_; rintro e w2 ⟨rfl, RV2, X2⟩; have cd := CD.out _ _ _ _ _ _ RV2 (hmore HZ.out))
      | (go_at_call 65; refine cd.mono ?_; rintro e w3 ⟨rfl, T', nv', mv', nn', RV3, X3⟩))
    go_ret
    exact ⟨rfl, _, ⟨⟨_, _, _, _, _, RV3⟩, HF.out⟩, (X.trans X2).trans X3⟩
set_option maxRecDepth 4000 in
set_option maxHeartbeats 1000000 in
theorem rename_rep (w : World) (T : Nat → Tag) (q : Nat) (m : M) (fr to : S) (R : Rep w T q m) (hd : m.done < 10000000) (hl : fr.length ≤ 1000) (hl2 : to.length ≤ 1000) :
    Calls Tryz.prog 79 #[.pointer (some ⟨q, 0, none⟩), .string (str fr), .string (str to)] w fun e w' => e = .returned (.int .i64 (m.renameE fr to : Int)) ∧ ∃ T', Rep w' T' q (m.rename fr to) ∧ Ext w T w' T' := by
  have c27 := name_any w to (by omega)
  have cA := Lib.hid (fun (V : World) (hB : Below w.heap.size w V) => actOn_more V T q m fr (R.below hB) (by omega) hl)
  have hFn := R.2.rename fr to
  have hFa := R.2.act
  have hdd := (act_done m).2.1
  have CL := Lib.hid (fun w' nv sv mv nn ns (RV : RepV w' T q m.act nv sv mv nn ns) => lose_rep w' T q m.act nv sv mv nn ns to RV hFa hl2)
  have CD := Lib.hid (fun w' nv sv mv nn ns (b : Nat) (hb : T b = .file) (RV : RepV w' T q (m.act.lose to) nv sv mv nn ns) (hm : nn < m.act.done ∧ ns + m.act.moves.length < m.act.done) => do_rep w' T q (m.act.lose to) nv sv mv nn ns ⟨fr, to, some b⟩ RV (by rw [(lose_now _ _).2.2.2.2]; omega) (fun c hc => by injection hc with hc; rw [← hc]; exact hb) ⟨hl, hl2⟩ (by rw [(lose_now _ _).2.2.2.2]; exact hm.1) (by rw [(lose_now _ _).2.2.2.2, (lose_now _ _).2.2.1]; exact hm.2))
  obtain ⟨nf, hnf⟩ : ∃ nm, nm = str fr := ⟨_, rfl⟩
  obtain ⟨nt, hnt⟩ : ∃ nm, nm = str to := ⟨_, rfl⟩
  simp only [mvV, ptrV] at CD
  rw [← hnf] at cA CD ⊢
  rw [← hnt] at c27 CL CD ⊢
  cases hok : nameOk to with
  | false =>
    rw [hok] at c27
    have hC : m.rename fr to = m := by simp [M.rename, hok]
    rw [show m.renameE fr to = 1 by simp [M.renameE, hok], hC]
    have HR := Lib.hid R
    clear cA R hC hnf hnt hok hFn hFa
    go_enter Tryz.func79, Tryz.ntmps79
    go_wp2_with (first | (go_at_call 64; refine c27.mono ?_; rintro e w1 ⟨rfl, B1⟩))
    go_ret
    exact ⟨rfl, T, HR.out.below B1, below_ext B1 T⟩
  | true =>
    rw [hok] at c27
    rw [show m.renameE fr to = m.onE fr by simp [M.renameE, hok]]
    rcases onE_cases m fr with ⟨h1, h2, h3⟩ | ⟨h1, h2, h3, h4⟩ | ⟨b, h1, h2, h3, h4⟩
    · rw [h1]
      rw [h1, h2] at cA
      rw [show m.rename fr to = m.act by simp [M.rename, hok, h2]] at hFn ⊢
      simp only [ptrV] at cA
      have HF := Lib.hid hFn
      clear hnf hnt h1 h2 h3 R hFn hFa hok
      go_enter Tryz.func79, Tryz.ntmps79
      go_wp2_with (first
        | (go_at_call 64; refine c27.mono ?_; rintro e w1 ⟨rfl, B1⟩; have ca := cA.out w1 B1)
        | (go_at_call 66; refine ca.mono ?_; rintro e w' ⟨rfl, ⟨nv, sv, mv, nn, ns, RV, _⟩, X⟩))
      go_ret
      exact ⟨rfl, _, ⟨⟨_, _, _, _, _, RV⟩, HF.out⟩, (below_ext B1 T).trans X⟩
    · rw [h1]
      rw [h1, h2] at cA
      rw [show m.rename fr to = m.act by simp [M.rename, hok, h2]] at hFn ⊢
      simp only [ptrV] at cA
      have HF := Lib.hid hFn
      clear hnf hnt h1 h2 h3 h4 R hFn hFa hok
      go_enter Tryz.func79, Tryz.ntmps79
      go_wp2_with (first
        | (go_at_call 64; refine c27.mono ?_; rintro e w1 ⟨rfl, B1⟩; have ca := cA.out w1 B1)
        | (go_at_call 66; refine ca.mono ?_; rintro e w' ⟨rfl, ⟨nv, sv, mv, nn, ns, RV, _⟩, X⟩))
      go_ret
      exact ⟨rfl, _, ⟨⟨_, _, _, _, _, RV⟩, HF.out⟩, (below_ext B1 T).trans X⟩
    · have hT := R.fileOf h4
      rw [h1]
      rw [h1, h2] at cA
      simp only [ptrV] at cA
      by_cases he : fr = to
      · obtain rfl : nf = nt := by rw [hnf, hnt, he]
        rw [show m.rename fr to = m.act by unfold M.rename; rw [if_neg (by simp [hok]), h2]; exact if_pos he] at hFn ⊢
        have HF := Lib.hid hFn
        clear hnf hnt h1 h2 h3 h4 R hFn hFa hok hT
        go_enter Tryz.func79, Tryz.ntmps79
        go_wp2_with (first
          | (go_at_call 64; refine c27.mono ?_; rintro e w1 ⟨rfl, B1⟩; have ca := cA.out w1 B1)
          | (go_at_call 66; refine ca.mono ?_; rintro e w' ⟨rfl, ⟨nv, sv, mv, nn, ns, RV, _⟩, X⟩))
        go_ret
        exact ⟨rfl, _, ⟨⟨_, _, _, _, _, RV⟩, HF.out⟩, (below_ext B1 T).trans X⟩
      · have hss : (nf.toList == nt.toList) = false := by rw [hnf, hnt, str_toList, str_toList]; simpa using he
        rw [show m.rename fr to = (m.act.lose to).mv ⟨fr, to, some b⟩ by unfold M.rename; rw [if_neg (by simp [hok]), h2]; exact if_neg he] at hFn ⊢
        have HF := Lib.hid hFn
        have HZ := Lib.hid (And.intro h3 hT)
        clear hnf hnt h1 h2 h3 h4 R hFn hFa hok hT
        go_enter Tryz.func79, Tryz.ntmps79
        go_wp2_with (first
          | (go_at_call 64; refine c27.mono ?_; rintro e w1 ⟨rfl, B1⟩; have ca := cA.out w1 B1)
          | (go_at_call 66; refine ca.mono ?_; rintro e w' ⟨rfl, ⟨nv, sv, mv, nn, ns, RV, hmore⟩, X⟩; have cl := CL.out _ _ _ _ _ _ RV)
          | (go_at_call 103; refine cl.mono ?_; rintro e w2 ⟨rfl, RV2, X2⟩; have cd := CD.out _ _ _ _ _ _ b HZ.out.2 RV2 (hmore HZ.out.1))
          | (go_at_call 65; refine cd.mono ?_; rintro e w3 ⟨rfl, T', nv', mv', nn', RV3, X3⟩))
        go_ret
        exact ⟨rfl, _, ⟨⟨_, _, _, _, _, RV3⟩, HF.out⟩, (((below_ext B1 T).trans X).trans X2).trans X3⟩
end Go.Proofs.YtdbhgkbmbbjpdaaGreatDoor.Shf
