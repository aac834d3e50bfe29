/-
  Plain facts: texts told with percent signs, and back.
-/
import Derived.Test.YtplabofdcnpcpaaPd
set_option linter.unusedSimpArgs false
set_option linter.unusedVariables false
namespace Go.Proofs.Ytplabofdcnpcpaa

/-- A digit of sixteen. -/
def hexD (n : Nat) : UInt8 := if n < 10 then UInt8.ofNat (48 + n) else UInt8.ofNat (55 + n)

theorem hexD_at (n : Nat) (h : n < (ByteArray.mk #[48, 49, 50, 51, 52, 53, 54, 55, 56, 57, 65, 66, 67, 68, 69, 70]).size) : (ByteArray.mk #[48, 49, 50, 51, 52, 53, 54, 55, 56, 57, 65, 66, 67, 68, 69, 70])[n] = hexD n := by
  have h16 : n < 16 := h
  rcases (show n = 0 ∨ n = 1 ∨ n = 2 ∨ n = 3 ∨ n = 4 ∨ n = 5 ∨ n = 6 ∨ n = 7 ∨ n = 8 ∨ n = 9 ∨ n = 10 ∨ n = 11 ∨ n = 12 ∨ n = 13 ∨ n = 14 ∨ n = 15 from by omega) with
    rfl | rfl | rfl | rfl | rfl | rfl | rfl | rfl | rfl | rfl | rfl | rfl | rfl | rfl | rfl | rfl <;> rfl

theorem and15 (n : Nat) (h : n < 256) : bits .and .u8 (n : Int) 15 = (n : Int) % 16 := by
  have := u8_and_nat n 15 h (by omega)
  rw [nat_mask4] at this
  simpa using this

def esc (c : UInt8) : List UInt8 := [37, hexD (c.toNat / 16), hexD (c.toNat % 16)]

def pct1 (set : Int) (c : UInt8) : List UInt8 := if inSetI c.toNat set then esc c else [c]

def pct (set : Int) (l : List UInt8) : List UInt8 := l.flatMap (pct1 set)

theorem pct1_le (set : Int) (c : UInt8) : (pct1 set c).length ≤ 3 := by unfold pct1 esc; split <;> simp

theorem pct_snoc (set : Int) (l : List UInt8) (c : UInt8) : pct set (l ++ [c]) = pct set l ++ pct1 set c := by simp [pct]

theorem pct_le (set : Int) (l : List UInt8) : (pct set l).length ≤ 3 * l.length := by
  induction l with
  | nil => simp [pct]
  | cons c l ih =>
    have h1 := pct1_le set c
    have h2 : pct set (c :: l) = pct1 set c ++ pct set l := by simp [pct]
    rw [h2]; simp; omega

/-- What a text begins with: a byte, and whether it was told by a percent sign. -/
def pcd (l : List UInt8) : UInt8 × Bool :=
  match l with
  | 37 :: a :: b :: _ => if is16I a.toNat && is16I b.toNat then (UInt8.ofNat (val16I a.toNat * 16 + val16I b.toNat).toNat, true) else (37, false)
  | c :: _ => (c, false)
  | [] => (0, false)

def unpctN : Nat → List UInt8 → List UInt8
  | 0, _ => []
  | _ + 1, [] => []
  | f + 1, c :: l => (pcd (c :: l)).1 :: unpctN f (if (pcd (c :: l)).2 then l.drop 2 else l)

def unpct (l : List UInt8) : List UInt8 := unpctN l.length l

theorem list_one (s : ByteArray) (h : 0 < s.size) : ∃ r, s.data.toList = s[0] :: r := by
  have h' : 0 < s.data.toList.length := by simpa using h
  match hl : s.data.toList, h' with
  | a :: r, _ =>
    refine ⟨r, ?_⟩
    have e : s[0] = s.data.toList[0]'(by rw [hl]; simp) := rfl
    rw [e]; simp [hl]

theorem list_three (s : ByteArray) (h : 2 < s.size) : ∃ r, s.data.toList = s[0] :: s[1] :: s[2] :: r := by
  have h' : 2 < s.data.toList.length := by simpa using h
  match hl : s.data.toList, h' with
  | a :: b :: c :: r, _ =>
    refine ⟨r, ?_⟩
    have e0 : s[0] = s.data.toList[0]'(by rw [hl]; simp) := rfl
    have e1 : s[1] = s.data.toList[1]'(by rw [hl]; simp) := rfl
    have e2 : s[2] = s.data.toList[2]'(by rw [hl]; simp) := rfl
    rw [e0, e1, e2]; simp [hl]

theorem pcd_short (l : List UInt8) (c : UInt8) (h : (c :: l).length < 3) : pcd (c :: l) = (c, false) := by
  match l, h with
  | [], _ => unfold pcd; split <;> simp_all
  | [a], _ => unfold pcd; split <;> simp_all

theorem pcd_other (l : List UInt8) (c : UInt8) (h : c ≠ 37) : pcd (c :: l) = (c, false) := by
  unfold pcd; split <;> simp_all

theorem pcd_three (a b : UInt8) (l : List UInt8) : pcd (37 :: a :: b :: l) = if is16I a.toNat && is16I b.toNat then (UInt8.ofNat (val16I a.toNat * 16 + val16I b.toNat).toNat, true) else (37, false) := rfl

theorem val16_lt (c : Int) : 0 ≤ val16I c ∧ val16I c < 16 := by unfold val16I; split <;> (try split) <;> (try split) <;> omega

theorem or16 (a b : Int) : bits .or .u8 (val16I a * 16) (val16I b) = ((UInt8.ofNat (val16I a * 16 + val16I b).toNat).toNat : Int) := by
  have ha := val16_lt a
  have hb := val16_lt b
  obtain ⟨x, hx⟩ := Int.eq_ofNat_of_zero_le ha.1
  obtain ⟨y, hy⟩ := Int.eq_ofNat_of_zero_le hb.1
  rw [hx, hy]
  have e : (x : Int) * 16 = ((x * 16 : Nat) : Int) := by omega
  have e2 : ((x : Int) * 16 + y).toNat = x * 16 + y := by omega
  rw [e2, e, u8_or_nat _ _ (by omega) (by omega), nat_join 4 _ _ (by omega) (by omega)]
  have : (UInt8.ofNat (x * 16 + y)).toNat = (x * 16 + y) % 256 := by simp
  rw [this]
  congr 1
  omega

theorem unpctN_fuel (f : Nat) : ∀ (g : Nat) (l : List UInt8), l.length ≤ f → l.length ≤ g → unpctN f l = unpctN g l := by
  induction f with
  | zero =>
    intro g l h _
    have : l = [] := List.eq_nil_of_length_eq_zero (by omega)
    subst this
    cases g <;> rfl
  | succ f ih =>
    intro g l h hg
    match l, g, h, hg with
    | [], g, _, _ => cases g <;> rfl
    | c :: l, 0, _, hg => simp at hg
    | c :: l, g + 1, h, hg =>
      simp only [List.length_cons] at h hg
      show _ :: unpctN f _ = _ :: unpctN g _
      rw [ih g _ ?_ ?_]
      · split
        · simp; omega
        · omega
      · split
        · simp; omega
        · omega

theorem unpct_cons (c : UInt8) (l : List UInt8) : unpct (c :: l) = (pcd (c :: l)).1 :: unpct (if (pcd (c :: l)).2 then l.drop 2 else l) := by
  show _ :: unpctN l.length _ = _
  unfold unpct
  rw [unpctN_fuel l.length _ _ ?_ (Nat.le_refl _)]
  split
  · simp
  · omega

theorem pcd_len (l : List UInt8) (h : (pcd l).2 = true) : 3 ≤ l.length := by
  unfold pcd at h
  split at h
  · simp
  · simp at h
  · simp at h

theorem drop_cons (s : ByteArray) (k : Nat) (h : k < s.size) : s.data.toList.drop k = s[k] :: s.data.toList.drop (k + 1) := by
  rw [List.drop_eq_getElem_cons (by simpa using h)]; rfl

theorem drop_none (s : ByteArray) (k : Nat) (h : ¬ k < s.size) : s.data.toList.drop k = [] := List.drop_eq_nil_iff.2 (by simp; omega)

theorem extract_drop (s : ByteArray) (k : Nat) : (s.extract k s.size).data.toList = s.data.toList.drop k := by
  rw [Lib.extract_data, List.take_of_length_le (by simp)]

end Go.Proofs.Ytplabofdcnpcpaa
