/- read's contract: the numbers of a text, rune by rune. -/
import Derived.Test.YtdfphpoakihkdaaDoorCom
import Derived.Laws.RangeAny
namespace Go.Proofs.YtdfphpoakihkdaaDoor.Pre
open Go.ChangeShapes Go.WideShapes Go.ChangeAt Go.RowKit Go.Sort

theorem iter_cell (X : World) (s : ByteArray) (p n i : Nat) (h : n < X.heap.size) : (X.iter s p).cell? ⟨n, i, none⟩ = X.cell? ⟨n, i, none⟩ := World.cell?_alloc_past _ _ _ h
theorem iter_frozen (X : World) (s : ByteArray) (p n i : Nat) (h : n < X.heap.size) : (X.iter s p).frozen? ⟨n, i, none⟩ = X.frozen? ⟨n, i, none⟩ := World.frozen?_alloc_past _ _ _ h
theorem iter_setCell (X : World) (s : ByteArray) (p n i : Nat) (v : Value) (h : n < X.heap.size) : (X.iter s p).setCell ⟨n, i, none⟩ v = (X.setCell ⟨n, i, none⟩ v).iter s p := World.setCell_alloc_past _ _ _ _ h
theorem iter_size (X : World) (s : ByteArray) (p : Nat) : (X.iter s p).heap.size = X.heap.size + 1 := by simp [World.iter]
attribute [local go_sem] iter_cell iter_frozen iter_setCell iter_size

abbrev St := Int × Int × Int × Int × Int × Nat
/-- A number, one digit on. -/
def dg (n r : Int) : Int := (n * 10 + (r - 48)) % 256
def putN : St → Int → St
  | (_, b, c, d, e, 0), v => (v, b, c, d, e, 0)
  | (a, _, c, d, e, 1), v => (a, v, c, d, e, 1)
  | (a, b, _, d, e, 2), v => (a, b, v, d, e, 2)
  | (a, b, c, _, e, 3), v => (a, b, c, v, e, 3)
  | (a, b, c, d, _, n + 4), v => (a, b, c, d, v, n + 4)
def getN : St → Int
  | (a, _, _, _, _, 0) => a
  | (_, b, _, _, _, 1) => b
  | (_, _, c, _, _, 2) => c
  | (_, _, _, d, _, 3) => d
  | (_, _, _, _, e, _ + 4) => e
def markAt : Nat → Int
  | 3 => 47
  | n => if n < 3 then 46 else -1
def nextN : St → St
  | (a, b, c, d, e, n) => (a, b, c, d, e, n + 1)
def atN (st : St) : Nat := st.2.2.2.2.2
/-- A rune of the text. -/
def stepR (st : St) (r : Int) : Option St :=
  if 48 ≤ r ∧ r ≤ 57 then some (putN st (dg (getN st) r))
  else if atN st < 4 ∧ r = markAt (atN st) then some (nextN st) else none
/-- All runes from pos on. -/
def runs (s : ByteArray) : Nat → Nat → St → Option St
  | 0, _, st => some st
  | f + 1, pos, st => if pos < s.size then match stepR st ((Utf8.decode s pos).1 : Int) with
      | none => none
      | some st' => runs s f (pos + (Utf8.decode s pos).2) st'
    else some st
theorem runs_end (s : ByteArray) (f pos : Nat) (st : St) (h : ¬ pos < s.size) : runs s f pos st = some st := by
  cases f with
  | zero => rfl
  | succ f => simp [runs, h]
theorem runs_none (s : ByteArray) (f pos : Nat) (st : St) (h : pos < s.size) (hs : stepR st ((Utf8.decode s pos).1 : Int) = none) : runs s (f + 1) pos st = none := by
  simp [runs, h, hs]
theorem runs_some (s : ByteArray) (f pos : Nat) (st st' : St) (h : pos < s.size) (hs : stepR st ((Utf8.decode s pos).1 : Int) = some st') : runs s (f + 1) pos st = runs s f (pos + (Utf8.decode s pos).2) st' := by
  simp [runs, h, hs]
theorem dec_pos (s : ByteArray) (pos : Nat) (h : pos < s.size) : 1 ≤ (Utf8.decode s pos).2 := by
  by_cases ha : (s[pos]'h).toNat < 128
  · rw [decode_ascii s pos h ha]; exact Nat.le_refl _
  · exact (decode_high s pos h (by omega)).2

theorem iterPos_at (X : World) (s : ByteArray) (p k : Nat) (h : k = X.heap.size) : (X.iter s p).iterPos k = p := by subst h; simp
theorem World_size (w : World) : w.heap.size = w.heap.size := rfl
def addrOf (a b c d : Int) : Int := a * 16777216 + b * 65536 + c * 256 + d
/-- What read answers. -/
def outN : Option St → Value
  | none => .tuple #[.agg #[.int .u32 0, .int .u8 0], .bool false]
  | some (a, b, c, d, e, n) => .tuple #[.agg #[.int .u32 (addrOf a b c d), .int .u8 e], .bool (n == 4)]
def Byte (n : Int) : Prop := 0 ≤ n ∧ n ≤ 255
theorem dg_byte (n r : Int) : Byte (dg n r) := by unfold dg Byte; omega
def st0 : St := (0, 0, 0, 0, 0, 0)

theorem or_add (x y i : Nat) (hx : x % 2 ^ i = 0) (hx1 : x < 4294967296) (hy : y < 2 ^ i) (hy1 : y < 4294967296) : bits .or .u32 (x : Int) (y : Int) = ((x + y : Nat) : Int) := by
  have := bits_join .u32 32 (by decide) (fun n h0 h1 => by rw [IntKind.wrap_u32]; omega) i (x : Int) (y : Int) (by omega) (by exact_mod_cast hx) (by omega) (by omega) (by exact_mod_cast hy) (by omega)
  rw [this]; simp
theorem addr_bits (a b c d : Int) (ha : Byte a) (hb : Byte b) (hc : Byte c) (hd : Byte d) :
    bits .or .u32 (bits .or .u32 (bits .or .u32 (a * 16777216) (b * 65536)) (c * 256)) d = addrOf a b c d := by
  unfold Byte at *
  obtain ⟨A, rfl⟩ := Int.eq_ofNat_of_zero_le ha.1
  obtain ⟨B, rfl⟩ := Int.eq_ofNat_of_zero_le hb.1
  obtain ⟨C, rfl⟩ := Int.eq_ofNat_of_zero_le hc.1
  obtain ⟨D, rfl⟩ := Int.eq_ofNat_of_zero_le hd.1
  have e1 : ((A : Int) * 16777216) = ((A * 16777216 : Nat) : Int) := by omega
  have e2 : ((B : Int) * 65536) = ((B * 65536 : Nat) : Int) := by omega
  have e3 : ((C : Int) * 256) = ((C * 256 : Nat) : Int) := by omega
  rw [e1, e2, e3, or_add _ _ 24 (by omega) (by omega) (by omega) (by omega), or_add _ _ 16 (by omega) (by omega) (by omega) (by omega), or_add _ _ 8 (by omega) (by omega) (by omega) (by omega)]
  unfold addrOf; omega

/-- Where the loop stands. -/
def Stand (s : ByteArray) (pos : Nat) (st : St) : Prop := ∃ f, s.size - pos ≤ f ∧ runs s s.size 0 st0 = runs s f pos st
theorem Stand.next {s : ByteArray} {pos : Nat} {st st' : St} (h : Stand s pos st) (hp : pos < s.size) (hs : stepR st ((Utf8.decode s pos).1 : Int) = some st') : Stand s (pos + (Utf8.decode s pos).2) st' := by
  obtain ⟨f, hf, he⟩ := h
  have := dec_pos s pos hp
  obtain ⟨f, rfl⟩ : ∃ g, f = g + 1 := ⟨f - 1, by omega⟩
  exact ⟨f, by omega, he.trans (runs_some s f pos st st' hp hs)⟩
theorem Stand.fail {s : ByteArray} {pos : Nat} {st : St} (h : Stand s pos st) (hp : pos < s.size) (hs : stepR st ((Utf8.decode s pos).1 : Int) = none) : runs s s.size 0 st0 = none := by
  obtain ⟨f, hf, he⟩ := h
  obtain ⟨f, rfl⟩ : ∃ g, f = g + 1 := ⟨f - 1, by omega⟩
  exact he.trans (runs_none s f pos st hp hs)
theorem Stand.done {s : ByteArray} {pos : Nat} {st : St} (h : Stand s pos st) (hp : ¬ pos < s.size) : runs s s.size 0 st0 = some st := by
  obtain ⟨f, _, he⟩ := h
  exact he.trans (runs_end s f pos st hp)
theorem Stand.start (s : ByteArray) : Stand s 0 st0 := ⟨s.size, by omega, rfl⟩

set_option maxHeartbeats 8000000 in
theorem read_any (s : ByteArray) (_hs : s.size ≤ maxLen) (w : World) :
    Calls Tryd.prog 32 #[.string s] w fun e w' => e = .returned (outN (runs s s.size 0 st0)) ∧ Below w.heap.size w w' := by
  unfold maxLen at _hs
  have hmk0 : ∀ (w : World), (Instr.index 9 (.string ⟨#[46, 46, 46, 47]⟩) (.int .i64 0)).run Tryd.prog w = .ok (.int .u8 46) w := fun _ => by kernel_rfl
  have hmk1 : ∀ (w : World), (Instr.index 9 (.string ⟨#[46, 46, 46, 47]⟩) (.int .i64 1)).run Tryd.prog w = .ok (.int .u8 46) w := fun _ => by kernel_rfl
  have hmk2 : ∀ (w : World), (Instr.index 9 (.string ⟨#[46, 46, 46, 47]⟩) (.int .i64 2)).run Tryd.prog w = .ok (.int .u8 46) w := fun _ => by kernel_rfl
  have hmk3 : ∀ (w : World), (Instr.index 9 (.string ⟨#[46, 46, 46, 47]⟩) (.int .i64 3)).run Tryd.prog w = .ok (.int .u8 47) w := fun _ => by kernel_rfl
  have hnx := @run_next_any Tryd.prog
  have hne := @run_next_end Tryd.prog
  go_enter Tryd.func32, Tryd.ntmps32
  go_wp2
  go_loopw [5] (fun i wr => ∃ (n0 n1 n2 n3 n4 z : Int) (k pos : Nat), ((z = 0 ∧ k = 0) ∨ (z = 1 ∧ k = 1) ∨ (z = 2 ∧ k = 2) ∨ (z = 3 ∧ k = 3) ∨ (z = 4 ∧ k = 4)) ∧ i = .int .i64 z ∧ (Byte n0 ∧ Byte n1 ∧ Byte n2 ∧ Byte n3 ∧ Byte n4) ∧ Stand s pos (n0, n1, n2, n3, n4, k) ∧ wr = (((w.alloc (.cells #[.int .u32 0, .int .u8 0] 24)).alloc (.cells #[.int .u8 n0, .int .u8 n1, .int .u8 n2, .int .u8 n3, .int .u8 n4] 50)).iter s pos)) (fun _ wr => s.size - wr.iterPos (w.heap.size + 1 + 1))
  case atStart => exact ⟨0, 0, 0, 0, 0, 0, 0, 0, by omega, rfl, ⟨by unfold Byte; omega, by unfold Byte; omega, by unfold Byte; omega, by unfold Byte; omega, by unfold Byte; omega⟩, Stand.start s, rfl⟩
  case round =>
    obtain ⟨n0, n1, n2, n3, n4, z, k, pos, hk, rfl, ⟨y0, y1, y2, y3, y4⟩, hst, rfl⟩ := hrel
    have hbs : Below w.heap.size w (((w.alloc (.cells #[.int .u32 0, .int .u8 0] 24)).alloc (.cells #[.int .u8 n0, .int .u8 n1, .int .u8 n2, .int .u8 n3, .int .u8 n4] 50)).iter s pos) := ((((Below.refl _ _).alloc (Nat.le_refl _) _).alloc (by simp) _).alloc (by simp; omega) _)
    have hbs : True := trivial
    by_cases hp : pos < s.size
    · have hnx1 := fun ty => run_next_any (P := Tryd.prog) ((w.alloc (.cells #[.int .u32 0, .int .u8 0] 24)).alloc (.cells #[.int .u8 n0, .int .u8 n1, .int .u8 n2, .int .u8 n3, .int .u8 n4] 50)) s pos ty hp
      simp only [World.size_alloc] at hnx1
      have hle := decode_le s pos
      have hd1 := dec_pos s pos hp
      have hnext := fun st' => hst.next (st' := st') hp
      have hfail := hst.fail hp
      generalize (Utf8.decode s pos).1 = r at *
      generalize (Utf8.decode s pos).2 = dn at *
      have HN := Lib.hid hnext
      have HF := Lib.hid hfail
      unfold Byte at y0 y1 y2 y3 y4
      clear hnext hfail hst
      rcases (show (48 ≤ r ∧ r ≤ 57) ∨ r < 48 ∨ 57 < r by omega) with hr | hr | hr
      · have hr1 : (48 : Int) ≤ (r : Int) := by omega
        have hr2 : (r : Int) ≤ 57 := by omega
        rcases hk with ⟨rfl, rfl⟩ | ⟨rfl, rfl⟩ | ⟨rfl, rfl⟩ | ⟨rfl, rfl⟩ | ⟨rfl, rfl⟩
        · go_wp2
          go_roundw
          case rel => exact ⟨dg n0 r, n1, n2, n3, n4, 0, 0, pos + dn, by omega, rfl, ⟨dg_byte _ _, by unfold Byte; omega, by unfold Byte; omega, by unfold Byte; omega, by unfold Byte; omega⟩, HN.out _ (by rw [stepR, if_pos (by omega)]; rfl), rfl⟩
          case measure => rw [iterPos_at _ _ _ _ (by simp), iterPos_at _ _ _ _ (by simp)]; omega
        · go_wp2
          go_roundw
          case rel => exact ⟨n0, dg n1 r, n2, n3, n4, 1, 1, pos + dn, by omega, rfl, ⟨by unfold Byte; omega, dg_byte _ _, by unfold Byte; omega, by unfold Byte; omega, by unfold Byte; omega⟩, HN.out _ (by rw [stepR, if_pos (by omega)]; rfl), rfl⟩
          case measure => rw [iterPos_at _ _ _ _ (by simp), iterPos_at _ _ _ _ (by simp)]; omega
        · go_wp2
          go_roundw
          case rel => exact ⟨n0, n1, dg n2 r, n3, n4, 2, 2, pos + dn, by omega, rfl, ⟨by unfold Byte; omega, by unfold Byte; omega, dg_byte _ _, by unfold Byte; omega, by unfold Byte; omega⟩, HN.out _ (by rw [stepR, if_pos (by omega)]; rfl), rfl⟩
          case measure => rw [iterPos_at _ _ _ _ (by simp), iterPos_at _ _ _ _ (by simp)]; omega
        · go_wp2
          go_roundw
          case rel => exact ⟨n0, n1, n2, dg n3 r, n4, 3, 3, pos + dn, by omega, rfl, ⟨by unfold Byte; omega, by unfold Byte; omega, by unfold Byte; omega, dg_byte _ _, by unfold Byte; omega⟩, HN.out _ (by rw [stepR, if_pos (by omega)]; rfl), rfl⟩
          case measure => rw [iterPos_at _ _ _ _ (by simp), iterPos_at _ _ _ _ (by simp)]; omega
        · go_wp2
          go_roundw
          case rel => exact ⟨n0, n1, n2, n3, dg n4 r, 4, 4, pos + dn, by omega, rfl, ⟨by unfold Byte; omega, by unfold Byte; omega, by unfold Byte; omega, by unfold Byte; omega, dg_byte _ _⟩, HN.out _ (by rw [stepR, if_pos (by omega)]; rfl), rfl⟩
          case measure => rw [iterPos_at _ _ _ _ (by simp), iterPos_at _ _ _ _ (by simp)]; omega
      · have hr1 : decide ((48 : Int) ≤ (r : Int)) = false := by simp; omega
        rcases hk with ⟨rfl, rfl⟩ | ⟨rfl, rfl⟩ | ⟨rfl, rfl⟩ | ⟨rfl, rfl⟩ | ⟨rfl, rfl⟩
        · by_cases hm : r = 46
          · subst hm
            go_wp2
            go_roundw
            case rel => exact ⟨n0, n1, n2, n3, n4, 1, 1, pos + dn, by omega, rfl, ⟨by unfold Byte; omega, by unfold Byte; omega, by unfold Byte; omega, by unfold Byte; omega, by unfold Byte; omega⟩, HN.out _ (by simp [stepR, atN, markAt, nextN]), rfl⟩
            case measure => rw [iterPos_at _ _ _ _ (by simp), iterPos_at _ _ _ _ (by simp)]; omega
          · have hb : ((r : Int) == 46) = false := by simp; omega
            go_wp2
            exact bodyPost_ret (v := .tuple #[.agg #[.int .u32 0, .int .u8 0], .bool false]) (by simp [results, Tryd.results32, go_sem]) rfl ⟨by rw [HF.out (by rw [stepR, if_neg (by omega), if_neg (fun h => by first | (simp [atN, markAt] at h; omega) | (simp [atN, markAt] at h))])]; rfl, ((((Below.refl _ _).alloc (Nat.le_refl _) _).alloc (by simp) _).alloc (by simp; omega) _)⟩
        · by_cases hm : r = 46
          · subst hm
            go_wp2
            go_roundw
            case rel => exact ⟨n0, n1, n2, n3, n4, 2, 2, pos + dn, by omega, rfl, ⟨by unfold Byte; omega, by unfold Byte; omega, by unfold Byte; omega, by unfold Byte; omega, by unfold Byte; omega⟩, HN.out _ (by simp [stepR, atN, markAt, nextN]), rfl⟩
            case measure => rw [iterPos_at _ _ _ _ (by simp), iterPos_at _ _ _ _ (by simp)]; omega
          · have hb : ((r : Int) == 46) = false := by simp; omega
            go_wp2
            exact bodyPost_ret (v := .tuple #[.agg #[.int .u32 0, .int .u8 0], .bool false]) (by simp [results, Tryd.results32, go_sem]) rfl ⟨by rw [HF.out (by rw [stepR, if_neg (by omega), if_neg (fun h => by first | (simp [atN, markAt] at h; omega) | (simp [atN, markAt] at h))])]; rfl, ((((Below.refl _ _).alloc (Nat.le_refl _) _).alloc (by simp) _).alloc (by simp; omega) _)⟩
        · by_cases hm : r = 46
          · subst hm
            go_wp2
            go_roundw
            case rel => exact ⟨n0, n1, n2, n3, n4, 3, 3, pos + dn, by omega, rfl, ⟨by unfold Byte; omega, by unfold Byte; omega, by unfold Byte; omega, by unfold Byte; omega, by unfold Byte; omega⟩, HN.out _ (by simp [stepR, atN, markAt, nextN]), rfl⟩
            case measure => rw [iterPos_at _ _ _ _ (by simp), iterPos_at _ _ _ _ (by simp)]; omega
          · have hb : ((r : Int) == 46) = false := by simp; omega
            go_wp2
            exact bodyPost_ret (v := .tuple #[.agg #[.int .u32 0, .int .u8 0], .bool false]) (by simp [results, Tryd.results32, go_sem]) rfl ⟨by rw [HF.out (by rw [stepR, if_neg (by omega), if_neg (fun h => by first | (simp [atN, markAt] at h; omega) | (simp [atN, markAt] at h))])]; rfl, ((((Below.refl _ _).alloc (Nat.le_refl _) _).alloc (by simp) _).alloc (by simp; omega) _)⟩
        · by_cases hm : r = 47
          · subst hm
            go_wp2
            go_roundw
            case rel => exact ⟨n0, n1, n2, n3, n4, 4, 4, pos + dn, by omega, rfl, ⟨by unfold Byte; omega, by unfold Byte; omega, by unfold Byte; omega, by unfold Byte; omega, by unfold Byte; omega⟩, HN.out _ (by simp [stepR, atN, markAt, nextN]), rfl⟩
            case measure => rw [iterPos_at _ _ _ _ (by simp), iterPos_at _ _ _ _ (by simp)]; omega
          · have hb : ((r : Int) == 47) = false := by simp; omega
            go_wp2
            exact bodyPost_ret (v := .tuple #[.agg #[.int .u32 0, .int .u8 0], .bool false]) (by simp [results, Tryd.results32, go_sem]) rfl ⟨by rw [HF.out (by rw [stepR, if_neg (by omega), if_neg (fun h => by first | (simp [atN, markAt] at h; omega) | (simp [atN, markAt] at h))])]; rfl, ((((Below.refl _ _).alloc (Nat.le_refl _) _).alloc (by simp) _).alloc (by simp; omega) _)⟩
        · go_wp2
          exact bodyPost_ret (v := .tuple #[.agg #[.int .u32 0, .int .u8 0], .bool false]) (by simp [results, Tryd.results32, go_sem]) rfl ⟨by rw [HF.out (by rw [stepR, if_neg (by omega), if_neg (fun h => by first | (simp [atN, markAt] at h; omega) | (simp [atN, markAt] at h))])]; rfl, ((((Below.refl _ _).alloc (Nat.le_refl _) _).alloc (by simp) _).alloc (by simp; omega) _)⟩
      · have hr1 : (48 : Int) ≤ (r : Int) := by omega
        have hr2 : decide ((r : Int) ≤ 57) = false := by simp; omega
        have hr46 : ((r : Int) == 46) = false := by simp; omega
        have hr47 : ((r : Int) == 47) = false := by simp; omega
        rcases hk with ⟨rfl, rfl⟩ | ⟨rfl, rfl⟩ | ⟨rfl, rfl⟩ | ⟨rfl, rfl⟩ | ⟨rfl, rfl⟩
        · go_wp2
          exact bodyPost_ret (v := .tuple #[.agg #[.int .u32 0, .int .u8 0], .bool false]) (by simp [results, Tryd.results32, go_sem]) rfl ⟨by rw [HF.out (by rw [stepR, if_neg (by omega), if_neg (fun h => by first | (simp [atN, markAt] at h; omega) | (simp [atN, markAt] at h))])]; rfl, ((((Below.refl _ _).alloc (Nat.le_refl _) _).alloc (by simp) _).alloc (by simp; omega) _)⟩
        · go_wp2
          exact bodyPost_ret (v := .tuple #[.agg #[.int .u32 0, .int .u8 0], .bool false]) (by simp [results, Tryd.results32, go_sem]) rfl ⟨by rw [HF.out (by rw [stepR, if_neg (by omega), if_neg (fun h => by first | (simp [atN, markAt] at h; omega) | (simp [atN, markAt] at h))])]; rfl, ((((Below.refl _ _).alloc (Nat.le_refl _) _).alloc (by simp) _).alloc (by simp; omega) _)⟩
        · go_wp2
          exact bodyPost_ret (v := .tuple #[.agg #[.int .u32 0, .int .u8 0], .bool false]) (by simp [results, Tryd.results32, go_sem]) rfl ⟨by rw [HF.out (by rw [stepR, if_neg (by omega), if_neg (fun h => by first | (simp [atN, markAt] at h; omega) | (simp [atN, markAt] at h))])]; rfl, ((((Below.refl _ _).alloc (Nat.le_refl _) _).alloc (by simp) _).alloc (by simp; omega) _)⟩
        · go_wp2
          exact bodyPost_ret (v := .tuple #[.agg #[.int .u32 0, .int .u8 0], .bool false]) (by simp [results, Tryd.results32, go_sem]) rfl ⟨by rw [HF.out (by rw [stepR, if_neg (by omega), if_neg (fun h => by first | (simp [atN, markAt] at h; omega) | (simp [atN, markAt] at h))])]; rfl, ((((Below.refl _ _).alloc (Nat.le_refl _) _).alloc (by simp) _).alloc (by simp; omega) _)⟩
        · go_wp2
          exact bodyPost_ret (v := .tuple #[.agg #[.int .u32 0, .int .u8 0], .bool false]) (by simp [results, Tryd.results32, go_sem]) rfl ⟨by rw [HF.out (by rw [stepR, if_neg (by omega), if_neg (fun h => by first | (simp [atN, markAt] at h; omega) | (simp [atN, markAt] at h))])]; rfl, ((((Below.refl _ _).alloc (Nat.le_refl _) _).alloc (by simp) _).alloc (by simp; omega) _)⟩
    · have hnx1 := fun ty => run_next_end (P := Tryd.prog) ((w.alloc (.cells #[.int .u32 0, .int .u8 0] 24)).alloc (.cells #[.int .u8 n0, .int .u8 n1, .int .u8 n2, .int .u8 n3, .int .u8 n4] 50)) s pos ty hp
      simp only [World.size_alloc] at hnx1
      have HD := Lib.hid (hst.done hp)
      have hab := addr_bits n0 n1 n2 n3 y0 y1 y2 y3
      unfold Byte at y0 y1 y2 y3 y4
      clear hst
      rcases hk with ⟨rfl, rfl⟩ | ⟨rfl, rfl⟩ | ⟨rfl, rfl⟩ | ⟨rfl, rfl⟩ | ⟨rfl, rfl⟩
      · go_wp2
        exact bodyPost_ret (v := .tuple #[.agg #[.int .u32 (addrOf n0 n1 n2 n3), .int .u8 n4], .bool false]) (by simp [results, Tryd.results32, go_sem]) rfl ⟨by rw [HD.out]; rfl, ((((Below.refl _ _).alloc (Nat.le_refl _) _).alloc (by simp) _).alloc (by simp; omega) _)⟩
      · go_wp2
        exact bodyPost_ret (v := .tuple #[.agg #[.int .u32 (addrOf n0 n1 n2 n3), .int .u8 n4], .bool false]) (by simp [results, Tryd.results32, go_sem]) rfl ⟨by rw [HD.out]; rfl, ((((Below.refl _ _).alloc (Nat.le_refl _) _).alloc (by simp) _).alloc (by simp; omega) _)⟩
      · go_wp2
        exact bodyPost_ret (v := .tuple #[.agg #[.int .u32 (addrOf n0 n1 n2 n3), .int .u8 n4], .bool false]) (by simp [results, Tryd.results32, go_sem]) rfl ⟨by rw [HD.out]; rfl, ((((Below.refl _ _).alloc (Nat.le_refl _) _).alloc (by simp) _).alloc (by simp; omega) _)⟩
      · go_wp2
        exact bodyPost_ret (v := .tuple #[.agg #[.int .u32 (addrOf n0 n1 n2 n3), .int .u8 n4], .bool false]) (by simp [results, Tryd.results32, go_sem]) rfl ⟨by rw [HD.out]; rfl, ((((Below.refl _ _).alloc (Nat.le_refl _) _).alloc (by simp) _).alloc (by simp; omega) _)⟩
      · go_wp2
        exact bodyPost_ret (v := .tuple #[.agg #[.int .u32 (addrOf n0 n1 n2 n3), .int .u8 n4], .bool true]) (by simp [results, Tryd.results32, go_sem]) rfl ⟨by rw [HD.out]; rfl, ((((Below.refl _ _).alloc (Nat.le_refl _) _).alloc (by simp) _).alloc (by simp; omega) _)⟩
end Go.Proofs.YtdfphpoakihkdaaDoor.Pre
