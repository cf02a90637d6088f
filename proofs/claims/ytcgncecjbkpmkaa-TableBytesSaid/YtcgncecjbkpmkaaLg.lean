/- A table, as bytes, and back. -/
import Derived.Test.YtcgncecjbkpmkaaLf
namespace Go.Proofs.Ytcgncecjbkpmkaa.Tab
open Pre Ser Chg Coin
open Go.ChangeShapes Go.WideShapes Go.ChangeAt Go.RowKit

def DecIs (w : World) (t : T) (e : Ending) (w' : World) : Prop := ∃ q v, e = .returned (.tuple #[.pointer (some ⟨q, 0, none⟩), .int .i64 0]) ∧ TabAt w' w.heap.size q t v ∧ Below w.heap.size w w'
theorem enc_len (t : T) : t.enc.length ≤ 27 + 63 * t.rows.length := by
  unfold T.enc
  rw [List.length_append]
  have h1 := coins_len [t.no, t.time, t.rows.length]
  have h2 := rows_len t.rows
  simp only [List.length_cons, List.length_nil] at h1
  omega
theorem decode_enc (A : Option Addr) (m cap : Nat) (t : T) (w : World) (hm : m = t.enc.length) (ht : t.Ok) (hl : t.rows.length ≤ 1000) (hr : Rd w w.heap.size A t.enc) :
    Calls Try.prog 21 #[.slice A m cap] w (DecIs w t) := by
  subst hm
  have he := enc_len t
  refine (decode_any A cap t.enc w (by omega) hr).mono ?_
  rintro e w' ⟨s, h1, h2, h3, -, h5⟩
  have hs := reach_enc t ht (by omega) s h1 h2
  subst hs
  obtain ⟨q, v, h6, h7⟩ := h5 rfl ht.up ht.ok
  rw [st0_enc t ht.no ht.time (by omega)] at h7
  exact ⟨q, v, h6, h7, h3⟩
theorem ch_cap {w : World} {B n c : Nat} {A : Option Addr} {cs : List C} (h : ChOwn w B (.slice A n c) cs) : cs.length ≤ c := by
  rcases h.2 with ⟨_, h2⟩ | ⟨g, cp, cur, h1, _, _, h2, _⟩
  · omega
  · injection h1 with _ _ h3
    omega
theorem ChSl.take' {w : World} {A : Option Addr} {cs : List C} (h : ChSl w A cs) (n : Nat) : ChSl w A (cs.take n) := fun k hk => by
  have hk2 : k < cs.length := by simp only [List.length_take] at hk; omega
  obtain ⟨b, o, e, hlt, hc⟩ := h k hk2
  refine ⟨b, o, e, hlt, ?_⟩
  rw [List.getElem_take]
  exact hc
end Go.Proofs.Ytcgncecjbkpmkaa.Tab
