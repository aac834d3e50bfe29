/-
  Plain facts: the digits of base 64, read from the left.
-/
import Derived.Test.YtplabofdcnpcpaaPb
import Derived.Laws.BitsAllLaws
set_option linter.unusedSimpArgs false
set_option linter.unusedVariables false
namespace Go.Proofs.Ytplabofdcnpcpaa

/-- One digit more: the number that was read, how many of its bits are not told yet, the bytes that were told. -/
def step64 (t : Nat × Nat × List UInt8) (c : UInt8) : Nat × Nat × List UInt8 :=
  if 2 ≤ t.2.1 then (t.1 * 64 + (val64I c.toNat).toNat, t.2.1 - 2, t.2.2 ++ [UInt8.ofNat ((t.1 * 64 + (val64I c.toNat).toNat) / 2 ^ (t.2.1 - 2))])
  else (t.1 * 64 + (val64I c.toNat).toNat, t.2.1 + 6, t.2.2)

def run64 (l : List UInt8) : Nat × Nat × List UInt8 := l.foldl step64 (0, 0, [])

def is64 (c : UInt8) : Bool := is64I c.toNat

def b64 (l : List UInt8) : Option (List UInt8) :=
  if (noPadding (noBlanks l)).length % 4 = 1 then none else if (noPadding (noBlanks l)).all is64 then some (run64 (noPadding (noBlanks l))).2.2 else none

theorem run64_snoc (l : List UInt8) (c : UInt8) : run64 (l ++ [c]) = step64 (run64 l) c := by simp [run64]

theorem val64_lt (c : Int) : 0 ≤ val64I c ∧ val64I c < 64 := by unfold val64I; split <;> (try split) <;> (try split) <;> (try split) <;> (try split) <;> omega

theorem run64_held (l : List UInt8) : (run64 l).2.1 ≤ 6 := by
  suffices h : ∀ (l : List UInt8) (t : Nat × Nat × List UInt8), t.2.1 ≤ 6 ∧ t.2.1 % 2 = 0 → (l.foldl step64 t).2.1 ≤ 6 ∧ (l.foldl step64 t).2.1 % 2 = 0 from (h l (0, 0, []) (by simp)).1
  intro l
  induction l with
  | nil => intro t h; exact h
  | cons c l ih =>
    intro t h
    refine ih _ ?_
    unfold step64
    split <;> simp <;> omega

theorem run64_len (l : List UInt8) : (run64 l).2.2.length ≤ l.length := by
  suffices h : ∀ (l : List UInt8) (t : Nat × Nat × List UInt8), (l.foldl step64 t).2.2.length ≤ t.2.2.length + l.length by simpa [run64] using h l (0, 0, [])
  intro l
  induction l with
  | nil => intro t; simp
  | cons c l ih =>
    intro t
    have := ih (step64 t c)
    have h2 : (step64 t c).2.2.length ≤ t.2.2.length + 1 := by unfold step64; split <;> simp
    simp only [List.foldl_cons, List.length_cons]
    omega

theorem or64 (n : Nat) (c : Int) : bits .or .u32 (((n % 4294967296 : Nat) : Int) * 64 % 4294967296) (val64I c) = (((n * 64 + (val64I c).toNat) % 4294967296 : Nat) : Int) := by
  have hv := val64_lt c
  obtain ⟨v, hv'⟩ := Int.eq_ofNat_of_zero_le hv.1
  rw [hv']
  have e : ((n % 4294967296 : Nat) : Int) * 64 % 4294967296 = (((n % 4294967296) * 64 % 4294967296 : Nat) : Int) := by omega
  have hb : v < 64 := by omega
  rw [e, u32_or_nat _ _ (by omega) (by omega), nat_join 6 _ _ (by omega) (by omega)]
  simp only [Int.toNat_natCast]
  congr 1
  omega

theorem shr64 (m h : Nat) (hh : h ≤ 4) : ((m % 4294967296 : Nat) : Int) / 2 ^ h % 256 = ((UInt8.ofNat (m / 2 ^ h)).toNat : Int) := by
  have e : (UInt8.ofNat (m / 2 ^ h)).toNat = m / 2 ^ h % 256 := by simp
  rw [e]
  rcases (show h = 0 ∨ h = 1 ∨ h = 2 ∨ h = 3 ∨ h = 4 from by omega) with rfl | rfl | rfl | rfl | rfl <;> simp <;> omega

end Go.Proofs.Ytplabofdcnpcpaa
