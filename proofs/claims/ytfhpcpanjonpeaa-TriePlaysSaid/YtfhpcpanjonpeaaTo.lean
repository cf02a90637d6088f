/- All routes of a trie; a trie of routes; the document's example. -/
import Derived.Test.YtfhpcpanjonpeaaTa
import Derived.Test.YtfhpcpanjonpeaaTl
namespace Go.Proofs.Ytfhpcpanjonpeaa.Tri
open Pre
open Go.ChangeShapes Go.WideShapes Go.ChangeAt Go.RowKit

theorem All_any {w : World} {g c : Nat} {t : T} {bs : List Nat} (h : TrAt w g t c bs) (hlen : t.list.length ≤ 1000) : Calls Try.prog 17 #[.pointer (some ⟨g, 0, none⟩)] w fun e w' => ∃ v', e = .returned v' ∧ RtOwn w' w.heap.size v' t.list ∧ Below w.heap.size w w' := by
  obtain ⟨v, hv, hA⟩ := h.row
  obtain ⟨pv, rfl⟩ := hA.ptr
  have c27 := all_any t w w.heap.size (.slice none 0 0) [] (.pointer pv) bs (RtOwn.nil _ _) hA hA.lt (Nat.le_refl _) (by simp; omega)
  rw [List.nil_append] at c27
  obtain ⟨p0, p1⟩ := row2 hv
  clear h hv hA
  go_enter Try.func17, Try.ntmps17
  go_wp2_with (first
    | (go_at_call 27; (with_reducible refine c27.mono ?_); rintro e w2 ⟨v2, rfl, O2, B2⟩))
  go_ret
  exact ⟨_, rfl, O2, B2⟩
theorem grew_to {w w1 w' : World} {B : Nat} {bs : List Nat} (h : Below B w w1) (G : Grew w1 w' bs) (hb : ∀ b ∈ bs, B ≤ b) (hB : B ≤ w1.heap.size) : Below B w w' :=
  h.trans ⟨G.os, G.tape, G.output, G.size, fun k hk => G.block k (Nat.lt_of_lt_of_le hk hB) fun e => by have := hb k e; omega⟩
/-- Routes, one put behind the other. -/
def puts (rs : List R) : Nat → T × Nat
  | 0 => (.nil, 0)
  | k + 1 => (((puts rs k).1.put (rs.getD k ⟨0, 0, 0, 0, 0⟩)).1, if ((puts rs k).1.put (rs.getD k ⟨0, 0, 0, 0, 0⟩)).2 then (puts rs k).2 + 1 else (puts rs k).2)
theorem puts_le (rs : List R) (k : Nat) : (puts rs k).2 ≤ k := by
  induction k with
  | zero => exact Nat.le_refl _
  | succ k ih => unfold puts; dsimp only; split <;> omega
theorem puts_wf {rs : List R} (h : ∀ r ∈ rs, r.Ok) (k : Nat) (hk : k ≤ rs.length) : (puts rs k).1.WF := by
  induction k with
  | zero => trivial
  | succ k ih =>
    unfold puts
    refine put_wf (ih (by omega)) ?_
    rw [List.getD_eq_getElem?_getD, List.getElem?_eq_getElem (by omega : k < rs.length)]
    exact h _ (List.getElem_mem _)
/-- What lies in memory while a trie is filled. -/
structure OfAt (w wr : World) (g : Nat) (rs : List R) (k : Nat) : Prop where
  be : Below w.heap.size w wr
  tr : ∃ bs, TrAt wr g (puts rs k).1 (puts rs k).2 bs ∧ ∀ b ∈ g :: bs, w.heap.size ≤ b
theorem OfAt.next {w wr w1 w' : World} {g k : Nat} {rs : List R} {r : R} (h : OfAt w wr g rs k) (B : Below wr.heap.size wr w1) (hr : rs.getD k ⟨0, 0, 0, 0, 0⟩ = r) {bs bs' : List Nat} (hb : ∀ b ∈ g :: bs, w.heap.size ≤ b)
    (t : TrAt w' g ((puts rs k).1.put r).1 (if ((puts rs k).1.put r).2 then (puts rs k).2 + 1 else (puts rs k).2) bs') (fr : ∀ b ∈ bs', b ∈ bs ∨ w1.heap.size ≤ b) (G : Grew w1 w' (g :: bs)) : OfAt w w' g rs (k + 1) := by
  subst hr
  have hs := h.be.size
  have hs1 := B.size
  exact ⟨grew_to (h.be.trans (B.mono hs)) G hb (by omega), bs', t, fun b hb' => by
    rcases List.mem_cons.1 hb' with rfl | hb'
    · exact hb b (by simp)
    · rcases fr b hb' with e | e
      · exact hb b (by simp [e])
      · omega⟩
theorem TrAt.new (w : World) : TrAt (w.alloc (.cells #[.pointer none, .int .i64 0] 28)) w.heap.size .nil 0 [] := ⟨⟨_, heap_alloc_new w _, rfl, rfl⟩, by simp⟩
set_option maxRecDepth 8000 in
set_option maxHeartbeats 8000000 in
theorem Of_any (w : World) (A : Option Addr) (n cp : Nat) (rs : List R) (hn : n = rs.length) (hl : n ≤ 1000) (h : RtSl w A rs) (hok : ∀ r ∈ rs, r.Ok) :
    Calls Try.prog 16 #[.slice A n cp] w fun e w' => ∃ g bs, e = .returned (.pointer (some ⟨g, 0, none⟩)) ∧ TrAt w' g (puts rs n).1 (puts rs n).2 bs ∧ (∀ b ∈ g :: bs, w.heap.size ≤ b) ∧ Below w.heap.size w w' := by
  have HN := Lib.hid hn
  have HS := Lib.hid h
  have HOK := Lib.hid hok
  have HO : Hid (OfAt w (w.alloc (.cells #[.pointer none, .int .i64 0] 28)) w.heap.size rs 0) := Lib.hid ⟨(Below.refl _ _).alloc (Nat.le_refl _) _, [], TrAt.new w, by simp⟩
  clear hn h hok
  go_enter Try.func16, Try.ntmps16
  go_wp2
  go_loopw [10] (fun i wr => ∃ k : Nat, k ≤ n ∧ i = .int .i64 k ∧ Hid (OfAt w wr w.heap.size rs k)) (fun i _ => n - (intOf i).toNat)
  case atStart => exact ⟨0, by omega, rfl, HO⟩
  case round =>
    obtain ⟨k, hk, rfl, HR⟩ := hrel
    clear HO
    by_cases hlt : k < n
    · have hkr : k < rs.length := by rw [← HN.out]; exact hlt
      obtain ⟨b, o, ea, hb, hc⟩ := HS.out k hkr
      subst ea
      obtain ⟨hbe, bs, htr, hbs⟩ := HR.out
      have hc := hc.keep (hbe.block b hb)
      have hrk : rs.getD k ⟨0, 0, 0, 0, 0⟩ = rs[k] := by rw [List.getD_eq_getElem?_getD, List.getElem?_eq_getElem hkr]; rfl
      have hro := HOK.out _ (List.getElem_mem hkr)
      have hwf := puts_wf HOK.out k (Nat.le_of_lt hkr)
      have hpl := puts_le rs k
      obtain ⟨r, hr⟩ : ∃ r, r = rs[k] := ⟨_, rfl⟩
      rw [← hr] at hc hro hrk
      have HK := Lib.hid (And.intro hrk hbs)
      have HBE := Lib.hid hbe
      obtain ⟨q0, q1, q2, q3, q4⟩ := hc
      have BA := (Below.refl wr.heap.size wr).alloc (Nat.le_refl _) (.cells #[.int .u32 (r.a : Int), .int .u8 (r.n : Int), .int .i64 r.via, .int .u16 r.mt, .int .u16 r.sq] 39)
      have c10 := Put_any (htr.below BA) hwf r hro (by omega)
      unfold R.cl at c10
      have HBA := Lib.hid BA
      have RN := heap_alloc_new wr (.cells #[.int .u32 (r.a : Int), .int .u8 (r.n : Int), .int .i64 r.via, .int .u16 r.mt, .int .u16 r.sq] 39)
      obtain ⟨y0, y1, y2, y3, y4⟩ := row5 RN
      clear hr hrk hbs hbe htr hwf hpl hro BA RN
      go_wp2_with (first
        | (go_at_call 10; (with_reducible refine c10.mono ?_); rintro e w2 ⟨rfl, bs', T2, fr2, G2⟩))
      go_roundw
      case rel => exact ⟨k + 1, by omega, by go_num, Lib.hid (HR.out.next HBA.out HK.out.1 HK.out.2 T2 fr2 G2)⟩
      case measure => simp [intOf]; omega
    · obtain rfl : k = n := by omega
      obtain ⟨hbe, bs, htr, hbs⟩ := HR.out
      go_wp2
      go_ret
      exact ⟨_, bs, rfl, htr, hbs, hbe⟩
end Go.Proofs.Ytfhpcpanjonpeaa.Tri
