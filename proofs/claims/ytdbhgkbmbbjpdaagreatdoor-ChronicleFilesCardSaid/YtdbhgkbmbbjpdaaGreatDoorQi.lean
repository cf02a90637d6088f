/- The document's Coins. How many files there are; reading one; what a volume's file is made of. What the law on files wants besides. -/
import Derived.Test.YtdbhgkbmbbjpdaaGreatDoorQe
import Derived.Test.YtdbhgkbmbbjpdaaGreatDoorPg
namespace Go.Proofs.YtdbhgkbmbbjpdaaGreatDoor.Chr
open Go.ChangeShapes Go.WideShapes Go.ChangeAt Go.RowKit
open Shf (S str)
open Coin (Rd Row Own sz coin got Pur takeV endV CoinSaid CoinOwn app_any length_coin sz_le rcoin_own)
open Frm (pack err size kind cnt body noItem itemV OneSaid)
set_option maxRecDepth 8000
set_option linter.unusedVariables false
open Shf (Tag Ext Rep M RdN get Fine)
variable {lo : Nat}
theorem rcoins_any (w : World) (b k : Nat) (ns : List Nat) (hb : w.heap[b]? = some (.cells (ns.map fun n : Nat => Value.int .u64 (n : Int)).toArray 42 (0, 0))) (hns : ∀ n ∈ ns, n < 18446744073709551616) (hk : k = ns.length) (hlen : k ≤ 100) :
    Calls Tryz.prog 28 #[.slice (some ⟨b, 0, none⟩) k k] w (CoinOwn w (coins ns)) := by
  have HK := Lib.hid (And.intro hk (And.intro hb hns))
  have hbl : b < w.heap.size := (Array.getElem?_eq_some_iff.1 hb).1
  clear hk hb hns
  go_enter Tryz.func28, Tryz.ntmps28
  go_wp2
  go_loopw [3, 4] (fun p i wr => ∃ j : Nat, j ≤ k ∧ i = .int .i64 j ∧ Hid (Own wr w.heap.size p (coins (ns.take j)) ∧ Below w.heap.size w wr)) (fun _ i _ => k - (intOf i).toNat)
  case atStart => exact ⟨0, by omega, rfl, ⟨Own.nil _ _, Below.refl _ _⟩⟩
  case round =>
    obtain ⟨j, hj, rfl, HR⟩ := hrel
    by_cases hlt : j < k
    · have hjl : j < ns.length := by rw [← HK.out.1]; exact hlt
      have hnj := HK.out.2.2 _ (List.getElem_mem hjl)
      have c0 : wr.cell? ⟨b, j, none⟩ = some (.int .u64 (ns[j] : Int)) := by
        rw [World.cell?_of_block (HR.out.2.block b hbl), cell_of_row w b j _ 42 (0, 0) HK.out.2.1]
        simp [hjl]
      have hnx : coins (ns.take (j + 1)) = coins (ns.take j) ++ coin ns[j] := by
        unfold coins
        rw [List.take_succ_eq_append_getElem hjl, List.flatMap_append]
        simp
      have hcl := coins_len (ns.take j)
      have htl : (ns.take j).length = j := by rw [List.length_take]; omega
      rw [htl] at hcl
      obtain ⟨A, c, hv, -, -, -⟩ := HR.out.1.form
      have hput := rcoin_own ns[j] hnj wr
      obtain ⟨m, hm⟩ : ∃ m, m = (coins (ns.take j)).length := ⟨_, rfl⟩
      rw [← hm] at hv hcl
      generalize ns[j] = n at *
      have hsz := sz_le n
      have HP := Lib.hid hput
      have HX := Lib.hid (And.intro hnx hm)
      clear hnx hput hnj htl hm
      subst hv
      go_wp2_with (first
        | (go_at_call 56; (with_reducible refine HP.out.mono ?_); rintro e w4 ⟨v4, rfl, O4, B4⟩; obtain ⟨A4, c4, hv4, hrd4, -, hn4⟩ := O4.form; obtain ⟨m4, hm4⟩ : ∃ m4, m4 = (coin n).length := ⟨_, rfl⟩; rw [← hm4] at hv4; subst hv4; have HZ4 := Lib.hid (And.intro (And.intro hrd4 (And.intro hm4 hn4)) (And.intro (HR.out.1.kept B4) (HR.out.2.trans (B4.mono HR.out.2.size)))); clear O4 B4 hrd4 hm4 hn4)
        | (at_builtin; refine app_any rfl (.tmp 11) (.tmp 16) rfl w.heap.size _ (coins (ns.take j)) (coin n) A4 m4 c4 w4.heap.size rfl rfl HZ4.out.2.1 HZ4.out.1.1 HZ4.out.1.2.1 HZ4.out.1.2.2 (by have := HX.out.2; rw [length_coin]; omega) HZ4.out.2.2.size w.heap.size w HZ4.out.2.2 (Nat.le_refl _) ?_; intro v5 w5 O5 B5 _; have HZ5 := Lib.hid (And.intro O5 B5); clear O5 B5))
      go_roundw
      case rel => exact ⟨j + 1, by omega, by go_num, ⟨by rw [HX.out.1]; exact HZ5.out.1, HZ5.out.2⟩⟩
      case measure => simp [intOf]; omega
    · obtain rfl : j = k := by omega
      go_wp2
      go_ret
      have := HR.out.1
      rw [List.take_of_length_le (by have := HK.out.1; omega)] at this
      exact ⟨_, rfl, this, HR.out.2⟩
end Go.Proofs.YtdbhgkbmbbjpdaaGreatDoor.Chr
namespace Go.Proofs.YtdbhgkbmbbjpdaaGreatDoor.Chr
open Go.ChangeShapes Go.WideShapes Go.ChangeAt Go.RowKit
open Shf (S str)
open Coin (Rd Row Own sz coin got Pur takeV endV CoinSaid CoinOwn)
open Frm (pack err size kind cnt body noItem itemV OneSaid)
set_option maxRecDepth 8000
set_option linter.unusedVariables false
open Shf (Tag Ext Rep M RdN get Fine)
variable {lo : Nat}
theorem get_keys {l : List (S × Nat)} {s : S} : get l s ≠ none → s ∈ l.map (·.1) := by
  induction l with
  | nil => intro h; exact absurd rfl h
  | cons x l ih =>
    intro h
    unfold Shf.get at h
    rw [List.map_cons]
    by_cases e : x.1 = s
    · rw [← e]; exact List.mem_cons_self
    · rw [if_neg e] at h; exact List.mem_cons_of_mem _ (ih h)
theorem file_get9 {m : M} {s l : S} (h : fileOf m s = some l) : get m.now s ≠ none := by
  intro e; unfold fileOf at h; rw [e] at h; cases h
theorem CG.own_nodup {c : CD} {m : M} (h : CG c m) (N : CN c) : c.own.Nodup := by
  unfold CD.own
  have h1 : (c.vols.map (fun d => vName d.no)).Nodup := by
    rw [List.nodup_iff_pairwise_ne, List.pairwise_map, List.pairwise_iff_getElem]
    intro i j hi hj hij e
    have e1 := h.nos i _ (List.getElem?_eq_getElem hi)
    have e2 := h.nos j _ (List.getElem?_eq_getElem hj)
    have := vn_ne _ _ (by have := h.no_lt N (List.getElem_mem hi); omega) (by have := h.no_lt N (List.getElem_mem hj); omega) e
    omega
  have hB := N.hB
  have h2 : c.own0.Nodup := by
    unfold CD.own0
    split
    · simp
    · have := (bn_ne c.hB (by omega)).1
      simp [this]
  refine List.nodup_append.2 ⟨h1, h2, fun a ha b hb e => ?_⟩
  obtain ⟨d, hd, rfl⟩ := List.mem_map.1 ha
  have hn := h.no_lt N hd
  unfold CD.own0 at hb
  split at hb
  · rw [List.mem_singleton] at hb
    exact (vn_idx d.no (by omega)).1 (e.trans hb)
  · simp only [List.mem_cons, List.not_mem_nil, or_false] at hb
    rcases hb with hb | hb
    · exact vn_bn d.no c.hB (by omega) (by omega) (e.trans hb)
    · exact (vn_idx d.no (by omega)).1 (e.trans hb)
theorem CG.list_len {c : CD} {m : M} (h : CG c m) (N : CN c) : m.list.length = c.own.length := by
  have e : m.list.length = (m.now.map (·.1)).length := by
    unfold Shf.M.list
    rw [h.on.f]
    simp
  rw [e]
  refine Nat.le_antisymm (h.good.keys.length_le_of_subset fun s hs => ?_) ((h.own_nodup N).length_le_of_subset fun s hs => ?_)
  · obtain ⟨x, hx, rfl⟩ := List.mem_map.1 hs
    unfold CD.own CD.own0
    rcases h.only x.1 (fun e => Shf.get_none.1 e x.2 hx) with e | ⟨hb, e⟩ | ⟨d, hd, e⟩
    · refine List.mem_append_right _ ?_; split <;> simp [e]
    · refine List.mem_append_right _ ?_; rw [if_neg hb, e]; simp
    · exact List.mem_append_left _ (List.mem_map.2 ⟨d, hd, e.symm⟩)
  · refine get_keys ?_
    unfold CD.own CD.own0 at hs
    rcases List.mem_append.1 hs with hs | hs
    · obtain ⟨d, hd, rfl⟩ := List.mem_map.1 hs
      exact file_get9 (h.vo d hd).1
    · split at hs
      · rw [List.mem_singleton] at hs; rw [hs]; exact file_get9 h.idx.1
      · rename_i hb
        simp only [List.mem_cons, List.not_mem_nil, or_false] at hs
        rcases hs with rfl | rfl
        · exact file_get9 (h.ba hb).1
        · exact file_get9 h.idx.1
theorem own_len {c : CD} : c.own.length = c.vols.length + (if c.hB = 0 then 1 else 2) := by
  unfold CD.own CD.own0
  rw [List.length_append, List.length_map]
  split <;> rfl
theorem read_on (w : World) (T : Nat → Tag) (q : Nat) (m : M) (R : Rep w T q m) (o : On m) (nm l : S) (hf : fileOf m nm = some l) (hn : nm.length ≤ 1000) :
    Calls Tryz.prog 25 #[.pointer (some ⟨q, 0, none⟩), .string (str nm)] w fun e w' => ∃ A c, e = .returned (.tuple #[.slice A l.length c, .int .i64 0]) ∧ Rd w' w'.heap.size A l ∧ (A = none → c = 0) ∧ Below w.heap.size w w' := by
  refine (Shf.read_rep w T q m nm R hn).mono ?_
  rintro e w' ⟨v, rfl, h, hb⟩
  obtain ⟨A, c, rfl, h1, h2, h3⟩ := fresh_form h
  have e1 := o.readE nm
  have e2 := o.readP nm
  rw [hf] at e1 e2
  rw [e2] at h1 h2 ⊢
  exact ⟨A, c, by rw [e1]; rfl, h1, h3, hb⟩
def wantJ (d : VolD) (j : Nat) : S := titleB d.no d.first ++ itsB (d.its.take j)
theorem want_full (d : VolD) : wantJ d d.its.length = volB d := by unfold wantJ volB; rw [List.take_length]
theorem want_zero (d : VolD) : wantJ d 0 = titleB d.no d.first := by unfold wantJ itsB; simp
theorem FZ.want_next {c : CD} {m : M} {mo : Nat} {l : S} (h : FZ c mo l) (g : CG c m) {d : VolD} (hd : d ∈ c.vols) {j : Nat} (hj : j < d.its.length) (b : UInt8) (hb : l[d.first - 1 + j]? = some b) : wantJ d (j + 1) = wantJ d j ++ pack 107 (byL b.toNat) := by
  have e := congrArg (fun z => z[j]?) (h.its d hd)
  have hx : d.its[j]? = some d.its[j] := List.getElem?_eq_getElem hj
  simp only [List.getElem?_map, hx, Option.map_some] at e
  rw [List.getElem?_take_of_lt hj, List.getElem?_drop, hb] at e
  simp only [Option.map_some, Option.some.injEq] at e
  unfold itR rk at e
  injection e with e1 e2
  have e3 : d.its[j].k = 107 := by apply UInt8.toNat_inj.1; rw [e1]; rfl
  unfold wantJ itsB
  rw [List.take_succ_eq_append_getElem hj, List.flatMap_append, ← List.append_assoc]
  simp [itB, e3, e2]
def firstAt (c : CD) (i : Nat) : Nat := match c.vols[i]? with | some d => d.first | none => c.next
theorem first_zero {c : CD} {m : M} {mo : Nat} {l : S} (h : FZ c mo l) (g : CG c m) : firstAt c 0 = 1 := by
  unfold firstAt
  cases hv : c.vols[0]? with
  | none =>
    have : c.vols = [] := by
      rw [List.getElem?_eq_none_iff] at hv
      exact List.eq_nil_of_length_eq_zero (by omega)
    show c.next = 1
    unfold CD.next
    rw [this]
    show c.hU + 1 = 1
    rw [h.hd.2.2.1]
  | some d =>
    have h1 := g.f0 d hv
    have h2 := (g.vo d (List.mem_of_getElem? hv)).2.2
    have := h.hd.2.2.1
    show d.first = 1
    omega
theorem first_next {c : CD} {m : M} (g : CG c m) {i : Nat} {d : VolD} (hd : c.vols[i]? = some d) : firstAt c (i + 1) = d.next := by
  unfold firstAt
  have hi := (List.getElem?_eq_some_iff.1 hd).1
  cases hv : c.vols[i + 1]? with
  | some d' => exact g.fi i d d' hd hv
  | none =>
    rw [List.getElem?_eq_none_iff] at hv
    show c.next = d.next
    unfold CD.next
    have : c.vols.getLast? = some d := by
      rw [List.getLast?_eq_getElem?, ← hd]
      congr 1
      omega
    rw [this]
theorem first_end {c : CD} : firstAt c c.vols.length = c.next := by
  unfold firstAt
  rw [List.getElem?_eq_none (Nat.le_refl _)]
end Go.Proofs.YtdbhgkbmbbjpdaaGreatDoor.Chr
namespace Go.Proofs.YtdbhgkbmbbjpdaaGreatDoor.Chr
open Go.ChangeShapes Go.WideShapes Go.ChangeAt Go.RowKit
open Shf (S str)
open Coin (Rd Row Own sz coin got Pur takeV endV CoinSaid CoinOwn)
open Frm (pack err size kind cnt body noItem itemV OneSaid)
set_option maxRecDepth 8000
set_option linter.unusedVariables false
open Shf (Tag Ext Rep M RdN get Fine)
variable {lo : Nat}
theorem volsZ_add (h : Nat) (l : List VolD) (i : Nat) : volsZ h l i = volsZ 0 l i + h := by unfold volsZ; omega
theorem mono_first : ∀ (l : List VolD), (∀ i d d', l[i]? = some d → l[i + 1]? = some d' → d'.first = d.next) → ∀ k, k < l.length → ∀ a b, l[0]? = some a → l[k]? = some b → a.first ≤ b.first
  | [], _, k, hk, _, _, _, _ => by simp at hk
  | [d], _, k, hk, a, b, ha, hb => by
    have : k = 0 := by simpa using hk
    subst this
    rw [ha] at hb; injection hb with hb; rw [hb]; exact Nat.le_refl _
  | d :: d' :: r, h, k, hk, a, b, ha, hb => by
    have h0 := h 0 d d' rfl rfl
    have had : a = d := by injection ha with ha; exact ha.symm
    rcases k with _ | k
    · rw [ha] at hb; injection hb with hb; rw [hb]; exact Nat.le_refl _
    · have := mono_first (d' :: r) (fun i e e' h1 h2 => h (i + 1) e e' h1 h2) k (by simpa using hk) d' b rfl hb
      unfold VolD.next at h0
      rw [had]; omega
theorem endL_iff (u : Nat) : ∀ (l : List VolD), (∀ i d d', l[i]? = some d → l[i + 1]? = some d' → d'.first = d.next) → ∀ k d, l[k + 1]? = some d → (d.first ≤ u + 1 ↔ k < endL l u)
  | [], _, k, d, hd => by simp at hd
  | [x], _, k, d, hd => by simp at hd
  | x :: x' :: r, h, k, d, hd => by
    have h0 := h 0 x x' rfl rfl
    unfold endL
    rcases k with _ | k
    · have hd : some x' = some d := hd
      injection hd with hd
      rw [← hd, h0]
      split
      · rename_i hc; exact ⟨fun _ => Nat.succ_pos _, fun _ => hc⟩
      · rename_i hc; exact ⟨fun e => absurd e hc, fun e => absurd e (Nat.lt_irrefl 0)⟩
    · have ih := endL_iff u (x' :: r) (fun i e e' h1 h2 => h (i + 1) e e' h1 h2) k d hd
      split
      · rw [ih]; omega
      · rename_i hc
        have hk : k + 1 < (x' :: r).length := by have := (List.getElem?_eq_some_iff.1 hd).1; simpa using this
        have := mono_first (x' :: r) (fun i e e' h1 h2 => h (i + 1) e e' h1 h2) (k + 1) hk x' d rfl hd
        omega
theorem vols_apart {w y : World} {T : Nat → Tag} {p q : Nat} {c : CD} (C : CAt lo w T p q c) (hv : c.vols ≠ []) (hy : y.heap[p]? = w.heap[p]?) {z : Nat} (hz : w.heap.size ≤ z) :
    ∀ bA bc vv, y.heap[p]? = some (.cells (cC q c bA bc vv) 82 (0, 0)) → ∀ o n k, vv ≠ .slice (some ⟨z, o, none⟩) n k := by
  intro bA bc vv hr o n k e
  obtain ⟨bA2, bc2, vv2, gv2, C2⟩ := C
  have h1 := C2.row
  rw [← hy, hr] at h1
  have h2 : vv = vv2 := by
    injection h1 with h1
    injection h1 with h1 _ _
    unfold cC at h1
    simp only [Array.mk.injEq, List.cons.injEq] at h1
    exact h1.2.2.2.2.2.2.1
  obtain ⟨vs, _, ⟨-, A, cap, e1, hle, -, -, -, h6⟩, _⟩ := C2.vs
  have hp := List.length_pos_iff.2 hv
  obtain ⟨g, off, cur, e3, -, hg, -⟩ := h6 (by omega)
  rw [← h2, e, e3] at e1
  injection e1 with e1 _ _
  injection e1 with e1
  injection e1 with e1 _ _
  have := (Array.getElem?_eq_some_iff.1 hg).1
  omega
theorem list_own (w : World) (T : Nat → Tag) (q : Nat) (m : M) (c : CD) (R : Rep w T q m) (h : CG c m) (N : CN c) (hd : m.done < 1000000000) :
    Calls Tryz.prog 31 #[.pointer (some ⟨q, 0, none⟩)] w fun e w' => ∃ A k, e = .returned (.slice A c.own.length k) ∧ Below w.heap.size w w' := by
  refine (Shf.list_rep w T q m R hd).mono ?_
  rintro e w' ⟨v, rfl, hs, hb⟩
  obtain ⟨A, k, rfl, -⟩ := strs_at hs
  rw [h.list_len N]
  exact ⟨A, k, rfl, hb⟩
end Go.Proofs.YtdbhgkbmbbjpdaaGreatDoor.Chr
