/- Volumes as bytes; what a shelf's acts do, where it is on and not armed. -/
import Derived.Test.YtdbhgkbmbbjpdaaGreatDoorOa
namespace Go.Proofs.YtdbhgkbmbbjpdaaGreatDoor.Chr
open Go.ChangeShapes Go.WideShapes Go.ChangeAt Go.RowKit
open Shf (S str)
open Coin (Rd Row Own sz coin got Pur takeV endV CoinSaid)
open Frm (pack err size kind cnt body noItem itemV OneSaid)
set_option maxRecDepth 8000
set_option linter.unusedVariables false
open Shf (Tag Ext Rep M RdN Good get Fine)
theorem takeV_coin (n : Nat) (hn : n < 18446744073709551616) (r : S) : takeV (coin n ++ r) 0 mx = (n, r, 0) := by
  unfold Coin.takeV
  rw [Coin.got_coin n hn r]
  have e : (coin n ++ r).drop (sz n) = r := by rw [← Coin.length_coin n]; exact List.drop_left
  have h2 : ¬ mx < n := by unfold mx; omega
  simp only [ne_eq, not_true_eq_false, if_false, h2, e]
theorem coins_two (a b : Nat) (ha : a < 18446744073709551616) (hb : b < 18446744073709551616) : endV (stP (coins [a, b]) 2).1 (stP (coins [a, b]) 2).2 = 0 ∧ valP (coins [a, b]) 0 = a ∧ valP (coins [a, b]) 1 = b := by
  have e : coins [a, b] = coin a ++ (coin b ++ []) := rfl
  have h1 : stP (coins [a, b]) 1 = (coin b ++ [], 0) := by
    show (takeV (coins [a, b]) 0 mx).2 = _
    rw [e, takeV_coin a ha]
  have h2 : stP (coins [a, b]) 2 = ([], 0) := by
    show (takeV (stP (coins [a, b]) 1).1 (stP (coins [a, b]) 1).2 mx).2 = _
    rw [h1, takeV_coin b hb]
  refine ⟨by rw [h2]; rfl, ?_, ?_⟩
  · show (takeV (coins [a, b]) 0 mx).1 = a
    rw [e, takeV_coin a ha]
  · show (takeV (stP (coins [a, b]) 1).1 (stP (coins [a, b]) 1).2 mx).1 = b
    rw [h1, takeV_coin b hb]
theorem coins_three (a b c : Nat) (ha : a < 18446744073709551616) (hb : b < 18446744073709551616) (hc : c < 18446744073709551616) : endV (stP (coins [a, b, c]) 3).1 (stP (coins [a, b, c]) 3).2 = 0 ∧ valP (coins [a, b, c]) 0 = a ∧ valP (coins [a, b, c]) 1 = b ∧ valP (coins [a, b, c]) 2 = c := by
  have e : coins [a, b, c] = coin a ++ (coin b ++ (coin c ++ [])) := rfl
  have h1 : stP (coins [a, b, c]) 1 = (coin b ++ (coin c ++ []), 0) := by
    show (takeV (coins [a, b, c]) 0 mx).2 = _
    rw [e, takeV_coin a ha]
  have h2 : stP (coins [a, b, c]) 2 = (coin c ++ [], 0) := by
    show (takeV (stP (coins [a, b, c]) 1).1 (stP (coins [a, b, c]) 1).2 mx).2 = _
    rw [h1, takeV_coin b hb]
  have h3 : stP (coins [a, b, c]) 3 = ([], 0) := by
    show (takeV (stP (coins [a, b, c]) 2).1 (stP (coins [a, b, c]) 2).2 mx).2 = _
    rw [h2, takeV_coin c hc]
  refine ⟨by rw [h3]; rfl, ?_, ?_, ?_⟩
  · show (takeV (coins [a, b, c]) 0 mx).1 = a
    rw [e, takeV_coin a ha]
  · show (takeV (stP (coins [a, b, c]) 1).1 (stP (coins [a, b, c]) 1).2 mx).1 = b
    rw [h1, takeV_coin b hb]
  · show (takeV (stP (coins [a, b, c]) 2).1 (stP (coins [a, b, c]) 2).2 mx).1 = c
    rw [h2, takeV_coin c hc]
theorem head_read (a b c : Nat) (ha : a < 18446744073709551616) (hb : b < 18446744073709551616) (hc : c < 18446744073709551616) : hdOk (headB a b c) = true ∧ valP (body (headB a b c)) 0 = a ∧ valP (body (headB a b c)) 1 = b ∧ valP (body (headB a b c)) 2 = c := by
  have hl : (coins [a, b, c]).length ≤ 1048576 := by have := coins_len [a, b, c]; simp only [List.length_cons, List.length_nil] at this; omega
  have h := Frm.err_pack 76 (coins [a, b, c]) [] hl
  rw [List.append_nil] at h
  obtain ⟨h1, h2, h3, h4⟩ := h
  have hb' : body (headB a b c) = coins [a, b, c] := h3
  obtain ⟨k1, k2, k3, k4⟩ := coins_three a b c ha hb hc
  refine ⟨?_, by rw [hb', k2], by rw [hb', k3], by rw [hb', k4]⟩
  unfold hdOk whole
  rw [hb', show err (headB a b c) = 0 from h1, show size (headB a b c) = (headB a b c).length from h2, show kind (headB a b c) = 76 from h4, k1]
  simp
def itB (x : ItD) : S := pack x.k x.p
def itsB (l : List ItD) : S := l.flatMap itB
def volB (d : VolD) : S := titleB d.no d.first ++ itsB d.its
def OffOk : Nat → List ItD → Nat → Prop
  | z, [], e => e = z
  | z, x :: l, e => x.a = z ∧ x.b = z + (itB x).length ∧ OffOk x.b l e
structure VolOk (d : VolD) : Prop where
  no : d.no < 18446744073709551616
  fi : d.first < 18446744073709551616
  ln : ∀ x ∈ d.its, x.p.length ≤ 1048576
  of : OffOk (titleB d.no d.first).length d.its d.size
theorem offOk_len : ∀ (l : List ItD) (z e : Nat), OffOk z l e → e = z + (itsB l).length
  | [], z, e, h => by have h : e = z := h; rw [h]; rfl
  | x :: l, z, e, ⟨h1, h2, h3⟩ => by
    have := offOk_len l x.b e h3
    rw [this, h2]
    show _ = z + (itB x ++ itsB l).length
    rw [List.length_append]
    omega
theorem offOk_snoc : ∀ (l : List ItD) (z e : Nat) (k : UInt8) (p : S), OffOk z l e → OffOk z (l ++ [⟨k, p, e, e + (pack k p).length⟩]) (e + (pack k p).length)
  | [], z, e, k, p, h => by have h : e = z := h; exact ⟨h, by rw [h]; rfl, rfl⟩
  | x :: l, z, e, k, p, ⟨h1, h2, h3⟩ => ⟨h1, h2, offOk_snoc l x.b e k p h3⟩
theorem chain_its : ∀ (l : List ItD) (pre : S) (e : Nat), (∀ x ∈ l, x.p.length ≤ 1048576) → OffOk pre.length l e → Frm.chain (pre ++ itsB l) pre.length (l.map (·.a)) e ∧ l.map (fun x => itAt (pre ++ itsB l) x.a) = l
  | [], pre, e, _, h => ⟨(show e = pre.length from h).symm, rfl⟩
  | x :: l, pre, e, hl, ⟨h1, h2, h3⟩ => by
    have hx := hl x List.mem_cons_self
    have hd : (pre ++ itsB (x :: l)).drop x.a = itB x ++ itsB l := by rw [h1]; exact List.drop_left
    obtain ⟨p1, p2, p3, p4⟩ := Frm.err_pack x.k x.p (itsB l) hx
    have e1 : (pre ++ itB x) ++ itsB l = pre ++ itsB (x :: l) := by rw [List.append_assoc]; rfl
    have e2 : (pre ++ itB x).length = x.b := by rw [List.length_append, h2]
    obtain ⟨r1, r2⟩ := chain_its l (pre ++ itB x) e (fun y hy => hl y (List.mem_cons_of_mem _ hy)) (by rw [e2]; exact h3)
    rw [e1, e2] at r1
    rw [e1] at r2
    have hlen : 0 < (itB x).length := by show 0 < (pack x.k x.p).length; rw [Frm.length_pack]; omega
    have hs : size ((pre ++ itsB (x :: l)).drop pre.length) = (itB x).length := by rw [← h1, hd]; exact p2
    refine ⟨⟨h1, ?_, ?_, ?_⟩, ?_⟩
    · rw [List.length_append]; show _ < pre.length + (itB x ++ itsB l).length; rw [List.length_append]; omega
    · rw [← h1, hd]; exact p1
    · rw [hs, ← h2]; exact r1
    · rw [List.map_cons, r2]
      congr 1
      unfold itAt
      rw [hd]
      show (⟨kind (pack x.k x.p ++ itsB l), body (pack x.k x.p ++ itsB l), x.a, x.a + size (pack x.k x.p ++ itsB l)⟩ : ItD) = x
      rw [p4, p3, p2]
      have h5 : x.b = x.a + (pack x.k x.p).length := by rw [h1]; exact h2
      rw [← h5]
theorem volIs_of {d : VolD} (h : VolOk d) : VolIs (volB d) d ∧ d.size = (volB d).length := by
  have hl : (coins [d.no, d.first]).length ≤ 1048576 := by have := coins_len [d.no, d.first]; simp only [List.length_cons, List.length_nil] at this; omega
  obtain ⟨p1, p2, p3, p4⟩ := Frm.err_pack 84 (coins [d.no, d.first]) (itsB d.its) hl
  obtain ⟨k1, k2, k3⟩ := coins_two d.no d.first h.no h.fi
  obtain ⟨r1, r2⟩ := chain_its d.its (titleB d.no d.first) d.size h.ln h.of
  have hsz := offOk_len _ _ _ h.of
  have hb : body (volB d) = coins [d.no, d.first] := p3
  have hlen : d.size = (volB d).length := by rw [hsz]; unfold volB; rw [List.length_append]
  refine ⟨⟨d.its.map (·.a), d.size, 0, ⟨rfl, ?_, p1, ?_⟩, Or.inl ⟨hlen, rfl⟩, by rw [show kind (volB d) = 84 from p4]; rfl, ?_, ?_⟩, hlen⟩
  · rw [← hlen, hsz]
    have : 0 < (titleB d.no d.first).length := by show 0 < (pack _ _).length; rw [Frm.length_pack]; omega
    omega
  · have e : 0 + size ((volB d).drop 0) = (titleB d.no d.first).length := by rw [List.drop_zero, Nat.zero_add]; exact p2
    rw [e]
    exact r1
  · unfold titled
    rw [hb, k1]
    rfl
  · rw [hb, k2, k3, List.map_map]
    have e : d.its.map (itAt (volB d) ∘ fun x => x.a) = d.its := r2
    rw [e]
theorem VolOk.more {d : VolD} (h : VolOk d) (k : UInt8) (p : S) (hp : p.length ≤ 1048576) : VolOk {d with its := d.its ++ [⟨k, p, d.size, d.size + (pack k p).length⟩], size := d.size + (pack k p).length} ∧ volB {d with its := d.its ++ [⟨k, p, d.size, d.size + (pack k p).length⟩], size := d.size + (pack k p).length} = volB d ++ pack k p := by
  refine ⟨⟨h.no, h.fi, fun x hx => ?_, offOk_snoc _ _ _ k p h.of⟩, ?_⟩
  · rcases List.mem_append.1 hx with hx | hx
    · exact h.ln x hx
    · rw [List.mem_singleton.1 hx]; exact hp
  · show titleB d.no d.first ++ itsB (d.its ++ [_]) = _
    unfold volB itsB
    rw [List.flatMap_append, ← List.append_assoc]
    simp [itB]
structure On (m : M) : Prop where
  f : m.fallen = false
  a : m.armed = false
def fileOf (m : M) (s : S) : Option S := (get m.now s).map fun b => (m.fl b).1
def Synced (m : M) (s : S) : Prop := ∀ b, get m.now s = some b → (m.fl b).2 = (m.fl b).1.length
theorem On.act {m : M} (h : On m) : m.act = {m with done := m.done + 1} ∧ m.actE = 0 := by
  unfold Shf.M.act Shf.M.actE
  rw [h.f, h.a]
  simp
theorem On.onF {m : M} (h : On m) (s : S) : m.onF s = get m.now s := by
  unfold Shf.M.onF
  rw [h.act.2]
  simp
theorem On.readE {m : M} (h : On m) (s : S) : m.readE s = match fileOf m s with | none => 2 | some _ => 0 := by
  unfold Shf.M.readE fileOf
  rw [h.f]
  cases get m.now s <;> simp
theorem On.readP {m : M} (h : On m) (s : S) : m.readP s = (fileOf m s).getD [] := by
  unfold Shf.M.readP fileOf
  rw [h.f]
  cases get m.now s <;> simp
theorem fileOf_some {m : M} {s l : S} (h : fileOf m s = some l) : ∃ b, get m.now s = some b ∧ (m.fl b).1 = l := by
  unfold fileOf at h
  cases hg : get m.now s with
  | none => rw [hg] at h; cases h
  | some b => rw [hg] at h; exact ⟨b, rfl, by simpa using h⟩
theorem get_ne {l : List (S × Nat)} (G : Shf.Good l) {s t : S} {b c : Nat} (hs : get l s = some b) (ht : get l t = some c) (hne : s ≠ t) : b ≠ c := fun e => by
  have h1 := Shf.mem_get hs
  have h2 := Shf.mem_get ht
  rw [← e] at h2
  exact hne (G.one h1 h2)
structure Stp (m m' : M) (nm : S) (l : S) : Prop where
  on : On m'
  now : m'.now = m.now
  safe : m'.safe = m.safe
  moves : m'.moves = m.moves
  room : m'.room = m.room
  done : m'.done = m.done + 1
  gone : m'.gone = m.gone
  is : fileOf m' nm = some l
  rest : ∀ t, t ≠ nm → fileOf m' t = fileOf m t ∧ (Synced m t → Synced m' t)
theorem append_on {m : M} (h : On m) (G : Shf.Good m.now) {nm l : S} (hf : fileOf m nm = some l) (p : S) (hr : (m.named + m.gone + p.length : Int) ≤ m.room) : m.appendE nm p = 0 ∧ Stp m (m.append nm p) nm (l ++ p) ∧ (m.append nm p).named = m.named + p.length := by
  obtain ⟨b, hg, hb⟩ := fileOf_some hf
  have h1 : ¬ (m.named + m.gone + p.length : Int) > m.room := by omega
  have eE : m.appendE nm p = 0 := by unfold Shf.M.appendE; rw [h.onF, hg]; simp only [h1, if_false]
  have eM : m.append nm p = {m.act with fl := fun c => if c = b then ((m.fl b).1 ++ p, (m.fl b).2) else m.fl c, named := m.named + p.length} := by unfold Shf.M.append; rw [h.onF, hg]; simp only [h1, if_false]
  rw [eM, h.act.1]
  refine ⟨eE, ⟨⟨h.f, h.a⟩, rfl, rfl, rfl, rfl, rfl, rfl, ?_, fun t ht => ⟨?_, fun hs c hc => ?_⟩⟩, rfl⟩
  · show (get m.now nm).map _ = _
    rw [hg, ← hb]
    simp
  · show (get m.now t).map _ = (get m.now t).map _
    cases hc : get m.now t with
    | none => rfl
    | some c =>
      have hne := get_ne G hc hg ht
      simp [hne]
  · have hc : get m.now t = some c := hc
    have hne := get_ne G hc hg ht
    show (if c = b then _ else m.fl c : S × Nat).2 = (if c = b then _ else m.fl c : S × Nat).1.length
    rw [if_neg hne]
    exact hs c hc
theorem sync_on {m : M} (h : On m) (G : Shf.Good m.now) {nm l : S} (hf : fileOf m nm = some l) : m.onE nm = 0 ∧ Stp m (m.sync nm) nm l ∧ (m.sync nm).named = m.named ∧ Synced (m.sync nm) nm := by
  obtain ⟨b, hg, hb⟩ := fileOf_some hf
  have eE : m.onE nm = 0 := by unfold Shf.M.onE; rw [h.act.2, hg]; simp
  have eM : m.sync nm = m.act.file b ((m.fl b).1, (m.fl b).1.length) := by unfold Shf.M.sync; rw [h.onF, hg]
  rw [eM, h.act.1]
  refine ⟨eE, ⟨⟨h.f, h.a⟩, rfl, rfl, rfl, rfl, rfl, rfl, ?_, fun t ht => ⟨?_, fun hs c hc => ?_⟩⟩, rfl, fun c hc => ?_⟩
  · show (get m.now nm).map (fun c => (if c = b then _ else m.fl c : S × Nat).1) = _
    rw [hg, ← hb]
    simp
  · show (get m.now t).map (fun c => (if c = b then _ else m.fl c : S × Nat).1) = (get m.now t).map _
    cases hc : get m.now t with
    | none => rfl
    | some c =>
      have hne := get_ne G hc hg ht
      simp [hne]
  · have hc : get m.now t = some c := hc
    have hne := get_ne G hc hg ht
    show (if c = b then _ else m.fl c : S × Nat).2 = (if c = b then _ else m.fl c : S × Nat).1.length
    rw [if_neg hne]
    exact hs c hc
  · have hc : get m.now nm = some c := hc
    rw [hg] at hc
    injection hc with hc
    show (if c = b then _ else m.fl c : S × Nat).2 = (if c = b then _ else m.fl c : S × Nat).1.length
    rw [if_pos hc.symm]
theorem names_on {m : M} (h : On m) (F : m.now = Shf.ages m.safe m.moves) : m.actE = 0 ∧ On m.names ∧ m.names.now = m.now ∧ m.names.safe = m.now ∧ m.names.moves = [] ∧ m.names.room = m.room ∧ m.names.done = m.done + 1 ∧ m.names.gone = 0 ∧ m.names.named = m.named ∧ m.names.fl = m.fl := by
  have eM : m.names = {m.act with safe := Shf.ages m.safe m.moves, moves := [], gone := 0} := by unfold Shf.M.names; rw [h.act.2]; simp
  rw [eM, h.act.1]
  exact ⟨h.act.2, ⟨h.f, h.a⟩, rfl, F.symm, rfl, rfl, rfl, rfl, rfl, rfl⟩
end Go.Proofs.YtdbhgkbmbbjpdaaGreatDoor.Chr
