/- Items told; lists of lists; the laws' own 'awake' and 'short'. -/
import Derived.Test.YtjhkgdgbmmpegaaFSc
import Derived.Test.YtjhkgdgbmmpegaaFRo
import Derived.Deep.Matrix
namespace Go.Proofs.Ytjhkgdgbmmpegaa.Frm
open Go.ChangeShapes Go.WideShapes Go.ChangeAt Go.RowKit
open Coin (b8 Rd Row Own sz coin got str CoinSaid)
open Tal (more)

theorem items_get (l : List UInt8) (xs : List (Nat × Nat)) : ∀ (k i : Nat) (hk : k < xs.length), i < 4 → (xs.flatMap (itemC l))[k * 4 + i]? = (itemC l xs[k])[i]? := by
  induction xs with
  | nil => intro k i hk; simp at hk
  | cons x xs ih =>
    intro k i hk hi
    rcases k with _ | k
    · rw [List.flatMap_cons, List.getElem?_append_left (by simp [itemC]; omega)]
      simp
    · rw [List.flatMap_cons, List.getElem?_append_right (by simp [itemC]; omega), show (itemC l x).length = 4 from rfl, show (k + 1) * 4 + i - 4 = k * 4 + i by omega, ih k i (by simpa using hk) hi]
      simp
theorem Items.form {w : World} {base : Nat} {v : Value} {l : List UInt8} {xs : List (Nat × Nat)} (h : Items w base v l xs) : ∃ A c, v = .slice A xs.length c ∧ xs.length ≤ c ∧ c ≤ maxLen := by
  rcases h.own.2 with ⟨rfl, h0⟩ | ⟨g, cap, cur, rfl, _, _, h1, h2, _⟩
  · exact ⟨none, 0, by rw [h0], by omega, by unfold maxLen; omega⟩
  · exact ⟨_, cap, rfl, h1, h2⟩
theorem Items.at {w : World} {base : Nat} {A : Option Addr} {n c : Nat} {l : List UInt8} {xs : List (Nat × Nat)} (h : Items w base (.slice A n c) l xs) (k : Nat) (hk : k < xs.length) :
    ∃ q, A = some ⟨q, 0, none⟩ ∧ w.cell? ⟨q, k * 4, none⟩ = some (.int .u8 ((kind (l.drop xs[k].1)).toNat : Int)) ∧ w.cell? ⟨q, k * 4 + 1, none⟩ = some (.slice (some ⟨xs[k].2, 0, none⟩) (cnt (l.drop xs[k].1)) (cnt (l.drop xs[k].1))) ∧
      w.cell? ⟨q, k * 4 + 2, none⟩ = some (.int .i64 (xs[k].1 : Int)) ∧ w.cell? ⟨q, k * 4 + 3, none⟩ = some (.int .i64 (xs[k].1 + size (l.drop xs[k].1) : Nat)) := by
  rcases h.own.2 with ⟨_, h0⟩ | ⟨g, cap, cur, e, _, hg, _, _, hs, ht⟩
  · omega
  · injection e with e1 e2 e3
    subst e1 e2 e3
    have c : ∀ i, i < 4 → w.cell? ⟨g, k * 4 + i, none⟩ = (itemC l xs[k])[i]? := fun i hi => by
      rw [cell_of_row w g _ _ 26 (0, 0) hg, ← items_get l xs k i hk hi, ← ht, List.getElem?_take_of_lt (by omega)]
      simp
    exact ⟨g, rfl, c 0 (by decide), c 1 (by decide), c 2 (by decide), c 3 (by decide)⟩

/-- A slice of slices of bytes. -/
def Mat (w : World) (B : Nat) (A : Option Addr) (ll : List (List UInt8)) : Prop :=
  0 < ll.length → ∃ x, A = some x ∧ x.block < B ∧ ∀ r (hr : r < ll.length), ∃ A' c', w.cell? (x.add r) = some (.slice A' ll[r].length c') ∧ ll[r].length ≤ c' ∧ (A' = none → c' = 0) ∧ Rd w B A' ll[r]
theorem Mat.below {w w' : World} {B B' : Nat} {A : Option Addr} {ll : List (List UInt8)} (h : Mat w B A ll) (hb : Below B' w w') (hB : B ≤ B') : Mat w' B A ll := fun h0 => by
  obtain ⟨x, e, h1, h2⟩ := h h0
  refine ⟨x, e, h1, fun r hr => ?_⟩
  obtain ⟨A', c', k1, k2, k3, k4⟩ := h2 r hr
  exact ⟨A', c', (hb.cell (by rw [Coin.block_add]; omega)).trans k1, k2, k3, k4.below hb hB⟩
/-- What the walk is told of a slice of slices of bytes that came in. -/
def IsMat (w : World) (a : Option Addr) (len cap : Nat) (ll : List (List UInt8)) : Prop := len = ll.length ∧ len ≤ cap ∧ cap ≤ maxLen ∧ (a = none → cap = 0) ∧ Mat w w.heap.size a ll ∧ ∀ r ∈ ll, r.length ≤ maxLen
def few (ll : List (List UInt8)) : Bool := decide (∀ r ∈ ll, r.length ≤ 200) && decide (ll.length ≤ 12)
theorem short_any (A : Option Addr) (cap B : Nat) (ll : List (List UInt8)) (w : World) (hl : ll.length ≤ maxLen) (hr : Mat w B A ll) :
    Calls Try.prog 12 #[.slice A ll.length cap] w fun e w' => e = .returned (.bool (few ll)) ∧ w = w' := by
  obtain ⟨n, hn⟩ : ∃ n, n = ll.length := ⟨_, rfl⟩
  rw [← hn]
  have hn2 : n ≤ maxLen := by omega
  unfold maxLen at hn2
  have HN := Lib.hid hn
  clear hn hl
  go_enter Try.func12, Try.ntmps12
  go_wp2_with fail
  go_loopw [3] (fun i wr => wr = w ∧ ∃ k : Nat, k ≤ n ∧ i = .int .i64 k ∧ Hid (∀ r ∈ ll.take k, r.length ≤ 200)) (fun i _ => n - (intOf i).toNat)
  case atStart => exact ⟨rfl, 0, by omega, rfl, fun r h => by simp at h⟩
  case round =>
    obtain ⟨rfl, k, hk, rfl, HO⟩ := hrel
    by_cases hlt : k < n
    · have hkl : k < ll.length := by rw [← HN.out]; exact hlt
      obtain ⟨x, rfl, _, hc⟩ := hr (by omega)
      obtain ⟨A', c', k1, _, _, _⟩ := hc k hkl
      have hlt' : (k : Int) < n := by omega
      have hw : IntKind.i64.wrap ((k : Int) + 1) = (k : Int) + 1 := by rw [IntKind.wrap_i64]; omega
      by_cases h2 : 200 < ll[k].length
      · have hF : few ll = false := by
          unfold few
          have : ¬ ∀ r ∈ ll, r.length ≤ 200 := fun h => by have := h ll[k] (List.getElem_mem hkl); omega
          rw [decide_eq_false this]; rfl
        have HF := Lib.hid hF
        have h2' : (200 : Int) < (ll[k].length : Int) := by omega
        clear hF h2 hc
        generalize ll[k].length = y at *
        go_wp2_with fail
        go_ret
        rw [HF.out]
        exact ⟨rfl, rfl⟩
      · have h2' : ¬ (200 : Int) < (ll[k].length : Int) := by omega
        have HO' : Hid (∀ r ∈ ll.take (k + 1), r.length ≤ 200) := fun r hr => by
          rw [List.take_succ_eq_append_getElem hkl] at hr
          rcases List.mem_append.1 hr with h | h
          · exact HO.out r h
          · rw [List.mem_singleton] at h; subst h; omega
        clear hc h2
        generalize ll[k].length = y at *
        go_wp2_with fail
        exact ⟨⟨trivial, k + 1, by omega, by simp, HO'⟩, by simp [intOf]; omega⟩
    · obtain rfl : k = n := by omega
      have hlt' : ¬ (k : Int) < (k : Int) := by omega
      have hF : few ll = decide (k ≤ 12) := by
        unfold few
        have h := HO.out
        rw [List.take_of_length_le (by rw [← HN.out]; exact Nat.le_refl _)] at h
        rw [decide_eq_true h, Bool.true_and, HN.out]
      have HF := Lib.hid hF
      clear hF
      go_wp2_with fail
      go_ret
      rw [HF.out]
      refine ⟨Coin.ret_bool ?_, rfl⟩
      rw [Bool.eq_iff_iff, decide_eq_true_eq, decide_eq_true_eq]; omega

theorem chain_pack (k : UInt8) (p : List UInt8) (hp : p.length ≤ 1048576) : chain (pack k p) 0 [0] (pack k p).length ∧ ends (pack k p) (pack k p).length 0 := by
  have h := err_pack k p [] hp
  rw [List.append_nil] at h
  have hl := length_pack k p
  refine ⟨⟨rfl, by omega, h.1, ?_⟩, .inl ⟨rfl, rfl⟩⟩
  show 0 + size ((pack k p).drop 0) = _
  rw [Nat.zero_add]; exact h.2.1
set_option maxRecDepth 100000 in
theorem awake_any (w : World) : Calls Try.prog 7 #[] w fun e w' => e = .returned (.bool true) ∧ Below w.heap.size w w' := by
  have r0 : Rd (w.alloc (.cells #[.int .u8 104, .int .u8 105] 5 (2, 3))) (w.alloc (.cells #[.int .u8 104, .int .u8 105] 5 (2, 3))).heap.size (some ⟨w.heap.size, 0, none⟩) [104, 105] := fun _ => by
    refine ⟨_, rfl, by simp, fun j hj => ?_⟩
    rw [Coin.zero_add', cell_of_row _ _ j _ 5 (2, 3) (heap_alloc_new w _)]
    have hj' : j < 2 := hj
    rcases (by omega : j = 0 ∨ j = 1) with h | h <;> subst h <;> rfl
  have b0 : Below w.heap.size w (w.alloc (.cells #[.int .u8 104, .int .u8 105] 5 (2, 3))) := (Below.refl _ _).alloc (Nat.le_refl _) _
  have c := pack_any 68 (some ⟨w.heap.size, 0, none⟩) 2 [104, 105] (w.alloc (.cells #[.int .u8 104, .int .u8 105] 5 (2, 3))) (by decide) r0 (fun h => by cases h)
  have kc := fun (w : World) (C : Array Value) (n c : Nat) => Lib.run_convert_bytes_const (P := Try.prog) w 22 5 C n c Try.underlying22 Try.underlying5
  have e68 : (((68 : UInt8).toNat : Nat) : Int) = 68 := rfl
  simp only [List.length_cons, List.length_nil, Nat.reduceAdd, e68] at c
  have hl : (pack 68 [104, 105]).length = 8 := by rw [length_pack]; rfl
  obtain ⟨hch, hen⟩ := chain_pack 68 [104, 105] (by decide)
  have hp := err_pack 68 [104, 105] [] (by decide)
  rw [List.append_nil] at hp
  rw [hl] at hch hen
  unfold CoinSaid at c
  generalize pack 68 [104, 105] = P at *
  rw [hl] at c
  have HL := Lib.hid hl
  have HCH := Lib.hid hch
  have HE := Lib.hid hen
  have HP := Lib.hid hp
  clear r0 e68 hl hch hen hp
  go_enter Try.func7, Try.ntmps7
  go_wp2_with fail
  refine c.mono ?_
  rintro e w1 ⟨A, c, rfl, R, hc, B1⟩
  have b1 := b0.trans (B1.mono b0.size)
  have cs := scan_any A c w1.heap.size P w1 (by rw [HL.out]; decide) (by rw [HL.out]; exact hc) (fun h => by
    obtain ⟨ad, e, _⟩ := R (by rw [HL.out]; decide)
    rw [h] at e; cases e) (Nat.le_refl _) R
  rw [HL.out] at cs
  go_wp2_with fail
  refine cs.mono ?_
  rintro e w2 ⟨v, xs, b, er, rfl, I, h1, h2, B2⟩
  have hone := chain_one P _ 0 b er _ 8 0 h1 h2 HCH.out HE.out (Nat.zero_le _)
  obtain ⟨hxs, rfl, rfl⟩ := hone
  have hlen : xs.length = 1 := by have := congrArg List.length hxs; simpa using this
  obtain ⟨A2, c2, rfl, hc2, hc3⟩ := I.form
  obtain ⟨q, rfl, _, k1, _, _⟩ := I.at 0 (by omega)
  have h0 : xs[0].1 = 0 := by
    have := congrArg (fun l : List Nat => l[0]?) hxs
    simpa [List.getElem?_eq_getElem (show 0 < xs.length by omega)] using this
  have rr := I.row xs[0] (List.getElem_mem _)
  rw [h0, List.drop_zero] at k1 rr
  rw [HP.out.2.2.1] at rr
  have hcn : cnt P = 2 := by
    have h := HP.out.2.2.1
    have := congrArg List.length h
    have hs := (err_ok _ HP.out.1).2.2.1
    unfold body at this
    unfold size at hs
    simp at this
    omega
  rw [hcn] at k1
  have hcv : (convert 22 9 (.slice (some ⟨xs[0].2, 0, none⟩) 2 2)).run Try.prog w2 = .ok (.string (str [104, 105])) w2 := Coin.conv_any rr.1.rd 2 2 rfl
  rw [hlen]
  rw [hlen] at hc2
  have k1 : w2.cell? ⟨q, 1, none⟩ = some (.slice (some ⟨xs[0].2, 0, none⟩) 2 2) := k1
  generalize xs[0].2 = g at *
  have heq : ((str [104, 105]).toList == [104, 105]) = true := by rw [Coin.str_toList]; rfl
  clear I rr hcn h0 hxs h1 h2
  go_wp2_with fail
  go_ret
  exact ⟨rfl, b1.trans (B2.mono b1.size)⟩
end Go.Proofs.Ytjhkgdgbmmpegaa.Frm
