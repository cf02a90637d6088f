/- What frame.Pack answers, and the document's own. -/
import Derived.Test.YtjhkgdgbmmpegaaFSm
namespace Go.Proofs.Ytjhkgdgbmmpegaa.Frm
open Go.ChangeShapes Go.WideShapes Go.ChangeAt Go.RowKit
open Coin (b8 Rd Row Own sz coin CoinSaid CoinOwn)
open Tal (more)

def TailSaid (w : World) (l : List UInt8) (e : Ending) (w' : World) : Prop := e = .returned (.slice (some ⟨w.heap.size, 0, none⟩) 4 4) ∧ Row w' w.heap.size (tailb (more 0 l)) ∧ Below w.heap.size w w'
theorem tail_any (A : Option Addr) (cap B : Nat) (l : List UInt8) (w : World) (hl : l.length ≤ 1000000) (hr : Rd w B A l) :
    Calls Try.prog 19 #[.slice A l.length cap] w (TailSaid w l) := by
  have c := Tal.rsum_any A cap B l w hl hr
  have hm := Tal.more_lt 0 l
  unfold TailSaid
  generalize more 0 l = s at *
  generalize l.length = m at *
  clear hr
  have hR : Row (w.alloc (.cells #[.int .u8 ((s : Int) % 256), .int .u8 ((s : Int) / 256 % 256), .int .u8 ((s : Int) / 65536 % 256), .int .u8 ((s : Int) / 16777216 % 256)] 5)) w.heap.size (tailb s) := by
    have h := Coin.Row.lit w (tailb s)
    have e : ((tailb s).map b8).toArray = #[.int .u8 ((s : Int) % 256), .int .u8 ((s : Int) / 256 % 256), .int .u8 ((s : Int) / 65536 % 256), .int .u8 ((s : Int) / 16777216 % 256)] := by
      simp only [tailb, List.map_cons, List.map_nil, Coin.b8_ofNat]; simp
    rwa [e] at h
  have e4 : (s : Int) / 16777216 % 256 = (s : Int) / 16777216 := by omega
  have hB : Below w.heap.size w (w.alloc (.cells #[.int .u8 ((s : Int) % 256), .int .u8 ((s : Int) / 256 % 256), .int .u8 ((s : Int) / 65536 % 256), .int .u8 ((s : Int) / 16777216 % 256)] 5)) := (Below.refl _ _).alloc (Nat.le_refl _) _
  rw [e4] at hR hB
  go_enter Try.func19, Try.ntmps19
  go_wp2_with (go_at_call 26; refine c.mono ?_; rintro e w' ⟨rfl, rfl⟩)
  go_ret
  exact ⟨rfl, hR, hB⟩

/-- A place for so many bytes, none in it yet. -/
theorem own_made (w : World) (n : Nat) (hn : n ≤ 1000000) : Own (w.alloc (.cells (madeCells #[.int .u8 0] n) 5)) w.heap.size (.slice (some ⟨w.heap.size, 0, none⟩) 0 n) [] := by
  refine ⟨rfl, .inr ⟨w.heap.size, n, madeCells #[.int .u8 0] n, rfl, Nat.le_refl _, heap_alloc_new w _, Nat.zero_le _, by unfold maxLen; omega, ?_, by simp⟩⟩
  rw [← Array.length_toList, toList_madeCells_one]; simp
theorem make0_any (n : Nat) (h : n ≤ 1000000) : ∀ w : World, (Instr.makeSlice 22 (.int .i64 0) (.int .i64 (n : Int))).run Try.prog w = .ok (.slice (some ⟨w.heap.size, 0, none⟩) 0 n) (w.alloc (.cells (madeCells #[.int .u8 0] n) 5)) := by
  intro w
  obtain ⟨i, hi, hz, h1, h2⟩ := info_parts Coin.info5
  have h := run_make (P := Try.prog) w 22 5 i (.int .u8 0) Try.underlying22 hi hz .i64 .i64 0 n (Int.le_refl _) (by omega) (by rw [h2]; omega) (by omega)
  have e : (Value.int IntKind.u8 0).cells = #[.int .u8 0] := rfl
  rw [h1, e] at h
  simpa using h
theorem one_row (w : World) (k : UInt8) (q : Nat) (hq : q = k.toNat) : Row (w.alloc (.cells #[.int .u8 (q : Int)] 5)) w.heap.size [k] := by rw [hq]; exact heap_alloc_new w _
theorem row4_rd {w : World} {g : Nat} {l : List UInt8} (h : Row4 w g l) : Rd w w.heap.size (some ⟨g, 0, none⟩) l := fun h0 => by
  refine ⟨_, rfl, ?_, fun j hj => ?_⟩
  · rcases Nat.lt_or_ge g w.heap.size with h1 | h1
    · exact h1
    · unfold Row4 at h; rw [Array.getElem?_eq_none h1] at h; cases h
  · rw [Coin.zero_add', cell_of_row w g j _ 46 (0, 0) h]; simp [hj]
set_option maxRecDepth 100000 in
theorem pack_any (k : UInt8) (A : Option Addr) (cap : Nat) (p : List UInt8) (w : World) (hl : p.length ≤ 300000) (hr : Rd w w.heap.size A p) (hA : A = none → cap = 0) :
    Calls Try.prog 8 #[.int .u8 (k.toNat : Int), .slice A p.length cap] w (CoinSaid w (pack k p)) := by
  have hs := Coin.sz_le p.length
  have hlc := Coin.length_coin p.length
  have hlp := length_pack k p
  have cs := fsize_any p.length (by omega)
  obtain ⟨N, hN⟩ : ∃ N, N = sz p.length + 1 + p.length + 4 := ⟨_, rfl⟩
  rw [← hN] at cs
  have hmk := make0_any N (by omega) w
  have O1 := own_made w N (by omega)
  have B1 : Below w.heap.size w (w.alloc (.cells (madeCells #[.int .u8 0] N) 5)) := (Below.refl _ _).alloc (Nat.le_refl _) _
  generalize w.alloc (.cells (madeCells #[.int .u8 0] N) 5) = w1 at *
  have cp := Coin.put_any none 0 [] p.length w1 (by omega) (by simp) (Rd.nil _ _ _)
  simp only [List.length_nil, Nat.zero_add, List.nil_append] at cp
  have hpk : pack k p = coin p.length ++ [k] ++ p ++ tailb (more 0 (coin p.length ++ [k] ++ p)) := by simp [pack, head]
  have hlh := length_head k p
  have hhd : head k p = coin p.length ++ [k] ++ p := by simp [head]
  rw [hhd] at hlh
  rw [hpk] at hlp ⊢
  obtain ⟨q, hq⟩ : ∃ q, q = k.toNat := ⟨_, rfl⟩
  rw [← hq]
  have HQ := Lib.hid hq
  obtain ⟨Y, hY⟩ : ∃ Y, Y = coin p.length ++ [k] ++ p ++ tailb (more 0 (coin p.length ++ [k] ++ p)) := ⟨_, rfl⟩
  rw [← hY] at hlp ⊢
  have HY := Lib.hid hY
  clear hq hY
  obtain ⟨m, hm⟩ : ∃ m, m = p.length := ⟨_, rfl⟩
  rw [← hm] at cs cp HY hlp hlh hlc hN hs hl ⊢
  have HM := Lib.hid hm
  obtain ⟨z, hz⟩ : ∃ z, z = sz m := ⟨_, rfl⟩
  rw [← hz] at cp hlp hlh hlc hN hs
  have HP := Lib.hid hlp
  have HH := Lib.hid hlh
  have HC := Lib.hid hlc
  generalize coin m = C at *
  clear hm hz hpk hhd hlp hlh hlc
  have HN := Lib.hid hN
  clear hN
  have hmN : N ≤ 300100 := by have := HN.out; omega
  go_enter Try.func8, Try.ntmps8
  go_wp2_with (first
    | (go_at_call 11; refine (cs _).mono ?_; rintro e w' ⟨rfl, rfl⟩)
    | (go_at_call 15; refine cp.mono ?_; rintro e w2 ⟨rfl, R2, B2⟩; have O2 := O1.kept B2; have b2 := B1.trans (B2.mono B1.size); have s2 := b2.size; have l2 : ([] : List UInt8).length + C.length ≤ 1000000 := (by have := HC.out; simp; omega))
    | (at_builtin; with_reducible refine Coin.app_any rfl (.tmp 11) (.tmp 15) rfl w.heap.size (.slice (some ⟨w.heap.size, 0, none⟩) 0 N) [] C (some ⟨w1.heap.size, 0, none⟩) z z w2.heap.size rfl rfl O2 R2.rd HC.out.symm (fun h => by cases h) l2 s2 w.heap.size w b2 (Nat.le_refl _) ?_; intro v3 w3 O3 B3 G3; rw [List.nil_append] at O3; have O4 := O3.kept (w' := w3.alloc (.cells #[.int .u8 (q : Int)] 5)) ((Below.refl _ _).alloc (Nat.le_refl _) _); have R4 := (one_row w3 k q HQ.out).rd; have b4 : Below w.heap.size w (w3.alloc (.cells #[.int .u8 (q : Int)] 5)) := B3.alloc B3.size _; have s4 := b4.size; have l4 : C.length + [k].length ≤ 1000000 := (by have := HC.out; simp; omega))
    | (at_builtin; with_reducible refine Coin.app_any rfl (.tmp 17) (.tmp 19) rfl w.heap.size v3 C [k] (some ⟨w3.heap.size, 0, none⟩) 1 1 _ rfl rfl O4 R4 rfl (fun h => by cases h) l4 s4 w.heap.size w b4 (Nat.le_refl _) ?_; intro v5 w5 O5 B5 G5; have R5 := hr.below B5 (Nat.le_refl _); have s5 := B5.size; have l5 : (C ++ [k]).length + p.length ≤ 1000000 := (by have := HC.out; have := HM.out; simp; omega))
    | (at_builtin; with_reducible refine Coin.app_any rfl (.tmp 21) (.tmp 22) rfl w.heap.size v5 (C ++ [k]) p A m cap _ rfl rfl O5 R5 HM.out hA l5 s5 w.heap.size w B5 (Nat.le_refl _) ?_; intro v6 w6 O6 B6 G6))
  obtain ⟨F, hF⟩ : ∃ F, F = C ++ [k] ++ p := ⟨_, rfl⟩
  obtain ⟨u, hu⟩ : ∃ u, u = F.length := ⟨_, rfl⟩
  have HF := HH.out
  have HYY := HY.out
  rw [← hF] at O6 HF HYY
  have hul : u = z + 1 + m := hu.trans HF
  have O6' := O6
  obtain ⟨A6, c6, rfl, R6, hc6, hn6⟩ := O6'.form
  have c16 := sumof_any A6 c6 F w6 (by rw [HF]; omega) R6
  unfold SumSaid at c16
  generalize more 0 F = s at *
  rw [← hu] at c16 hc6
  simp only [← hu] at O6
  have HU := Lib.hid (And.intro hul (And.intro HYY hu))
  clear hF hu HF hul HYY
  obtain ⟨b0, hb0⟩ : ∃ b0, b0 = UInt8.ofNat s := ⟨_, rfl⟩
  obtain ⟨b1, hb1⟩ : ∃ b1, b1 = UInt8.ofNat (s / 256) := ⟨_, rfl⟩
  obtain ⟨b2, hb2⟩ : ∃ b2, b2 = UInt8.ofNat (s / 65536) := ⟨_, rfl⟩
  obtain ⟨b3, hb3⟩ : ∃ b3, b3 = UInt8.ofNat (s / 16777216) := ⟨_, rfl⟩
  rw [← hb0, ← hb1, ← hb2, ← hb3] at c16
  have HT : Hid (tailb s = [b0, b1, b2, b3]) := by show _ = _; rw [hb0, hb1, hb2, hb3]; rfl
  clear hb0 hb1 hb2 hb3
  rw [← HU.out.2.2]
  refine c16.mono ?_
  rintro e w7 ⟨rfl, B7⟩
  have S7 := B7.size; have b7 : Below w.heap.size w (w7.alloc (.cells #[.int .u8 0, .int .u8 0, .int .u8 0, .int .u8 0] 46)) := (B6.trans (B7.mono B6.size)).alloc (Nat.le_trans B6.size B7.size) _; have r7 : Row4 (w7.alloc (.cells #[.int .u8 0, .int .u8 0, .int .u8 0, .int .u8 0] 46)) w7.heap.size [0, 0, 0, 0] := heap_alloc_new w7 _
  go_wp2_with (first
    | (with_reducible refine store4 rfl (.tmp 6) (.tmp 25) rfl w7.heap.size [0, 0, 0, 0] b0 b1 b2 b3 rfl rfl r7 rfl w6.heap.size (w7.alloc (.cells #[.int .u8 0, .int .u8 0, .int .u8 0, .int .u8 0] 46)) (Below.refl _ _) S7 ?_; intro w8 R8 B8; have O8 := O6.kept ((B7.alloc S7 (.cells #[.int .u8 0, .int .u8 0, .int .u8 0, .int .u8 0] 46)).trans B8); have b8 : Below w.heap.size w w8 := b7.trans (B8.mono B6.size); have s8 := b8.size; have T8 := row4_rd R8; rw [← HT.out] at T8; have l8 : F.length + (tailb s).length ≤ 1000000 := (by rw [← HU.out.2.2, HU.out.1]; rw [length_tailb]; omega))
    | (at_builtin; with_reducible refine Coin.app_any rfl (.tmp 26) (.tmp 27) rfl w.heap.size (.slice A6 u c6) F (tailb s) (some ⟨w7.heap.size, 0, none⟩) 4 4 _ rfl rfl O8 T8 rfl (fun h => by cases h) l8 s8 w.heap.size w b8 (Nat.le_refl _) ?_; intro v9 w9 O9 B9 G9))
  rw [← HU.out.2.1] at O9
  go_ret
  obtain ⟨A9, c9, rfl, R9, h9, _⟩ := O9.form
  exact ⟨A9, c9, rfl, R9, h9, B9⟩
/-- What the document's Pack answers: bytes in the call's own memory. -/
theorem rpack_any (k : UInt8) (A : Option Addr) (cap : Nat) (p : List UInt8) (w : World) (hl : p.length ≤ 300000) (hr : Rd w w.heap.size A p) (hA : A = none → cap = 0) :
    Calls Try.prog 10 #[.int .u8 (k.toNat : Int), .slice A p.length cap] w (CoinOwn w (pack k p)) := by
  have hs := Coin.sz_le p.length
  have hlc := Coin.length_coin p.length
  have hlp := length_pack k p
  have hlh := length_head k p
  have hpk : pack k p = coin p.length ++ [k] ++ p ++ tailb (more 0 (coin p.length ++ [k] ++ p)) := by simp [pack, head]
  have hhd : head k p = coin p.length ++ [k] ++ p := by simp [head]
  rw [hhd] at hlh
  rw [hpk] at hlp ⊢
  obtain ⟨q, hq⟩ : ∃ q, q = k.toNat := ⟨_, rfl⟩
  rw [← hq]
  have HQ := Lib.hid hq
  obtain ⟨Y, hY⟩ : ∃ Y, Y = coin p.length ++ [k] ++ p ++ tailb (more 0 (coin p.length ++ [k] ++ p)) := ⟨_, rfl⟩
  rw [← hY] at hlp ⊢
  have HY := Lib.hid hY
  clear hq hY
  obtain ⟨m, hm⟩ : ∃ m, m = p.length := ⟨_, rfl⟩
  have cc := Coin.rcoin_own p.length (by omega) w
  rw [← hm] at cc HY hlp hlh hlc hs hl ⊢
  have HM := Lib.hid hm
  obtain ⟨z, hz⟩ : ∃ z, z = sz m := ⟨_, rfl⟩
  rw [← hz] at hlp hlh hlc hs
  have HP := Lib.hid hlp
  have HH := Lib.hid hlh
  have HC := Lib.hid hlc
  generalize coin m = C at *
  clear hm hz hpk hhd hlp hlh hlc
  go_enter Try.func10, Try.ntmps10
  go_wp2_with (first
    | (go_at_call 18; refine cc.mono ?_; rintro e w3 ⟨v3, rfl, O3, B3⟩; have O4 := O3.kept (w' := w3.alloc (.cells #[.int .u8 (q : Int)] 5)) ((Below.refl _ _).alloc (Nat.le_refl _) _); have R4 := (one_row w3 k q HQ.out).rd; have b4 : Below w.heap.size w (w3.alloc (.cells #[.int .u8 (q : Int)] 5)) := B3.alloc B3.size _; have s4 := b4.size; have l4 : C.length + [k].length ≤ 1000000 := (by have := HC.out; simp; omega))
    | (at_builtin; with_reducible refine Coin.app_any rfl (.tmp 9) (.tmp 11) rfl w.heap.size v3 C [k] (some ⟨w3.heap.size, 0, none⟩) 1 1 _ rfl rfl O4 R4 rfl (fun h => by cases h) l4 s4 w.heap.size w b4 (Nat.le_refl _) ?_; intro v5 w5 O5 B5 G5; have R5 := hr.below B5 (Nat.le_refl _); have s5 := B5.size; have l5 : (C ++ [k]).length + p.length ≤ 1000000 := (by have := HC.out; have := HM.out; simp; omega))
    | (at_builtin; with_reducible refine Coin.app_any rfl (.tmp 13) (.tmp 14) rfl w.heap.size v5 (C ++ [k]) p A m cap _ rfl rfl O5 R5 HM.out hA l5 s5 w.heap.size w B5 (Nat.le_refl _) ?_; intro v6 w6 O6 B6 G6))
  obtain ⟨F, hF⟩ : ∃ F, F = C ++ [k] ++ p := ⟨_, rfl⟩
  obtain ⟨u, hu⟩ : ∃ u, u = F.length := ⟨_, rfl⟩
  have HF := HH.out
  have HYY := HY.out
  rw [← hF] at O6 HF HYY
  have hul : u = z + 1 + m := hu.trans HF
  have O6' := O6
  obtain ⟨A6, c6, rfl, R6, hc6, hn6⟩ := O6'.form
  have c16 := tail_any A6 c6 w6.heap.size F w6 (by rw [HF]; omega) R6
  unfold TailSaid at c16
  generalize more 0 F = s at *
  rw [← hu] at c16 hc6
  simp only [← hu] at O6
  have HU := Lib.hid (And.intro hul (And.intro HYY hu))
  clear hF hu HF hul HYY
  rw [← HU.out.2.2]
  refine c16.mono ?_
  rintro e w8 ⟨rfl, T8, B8⟩
  have O8 := O6.kept B8
  have b8 : Below w.heap.size w w8 := B6.trans (B8.mono B6.size)
  have s8 := b8.size
  have l8 : F.length + (tailb s).length ≤ 1000000 := (by rw [← HU.out.2.2, HU.out.1]; rw [length_tailb]; omega)
  go_wp2_with (first
    | (at_builtin; with_reducible refine Coin.app_any rfl (.tmp 16) (.tmp 18) rfl w.heap.size (.slice A6 u c6) F (tailb s) (some ⟨w6.heap.size, 0, none⟩) 4 4 _ rfl rfl O8 T8.rd rfl (fun h => by cases h) l8 s8 w.heap.size w b8 (Nat.le_refl _) ?_; intro v9 w9 O9 B9 G9))
  rw [← HU.out.2.1] at O9
  go_ret
  exact ⟨v9, rfl, O9, B9⟩
end Go.Proofs.Ytjhkgdgbmmpegaa.Frm
