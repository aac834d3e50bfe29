/-
  Plain facts: the sets of bytes that are told as percent signs.
-/
import Derived.Test.YtplabofdcnpcpaaPc
import Derived.Lib.Bytealg
set_option linter.unusedSimpArgs false
set_option linter.unusedVariables false
namespace Go.Proofs.Ytplabofdcnpcpaa

def idxA (c : Int) : Int := Lib.indexByte [47, 58, 59, 61, 64, 91, 92, 93, 124] c.toNat.toUInt8
def idxB (c : Int) : Int := Lib.indexByte [63, 94, 96, 123, 125] c.toNat.toUInt8
def idxC (c : Int) : Int := Lib.indexByte [32, 34, 60, 62] c.toNat.toUInt8

theorem index_nonneg (l : List UInt8) (b : UInt8) : 0 ≤ Lib.indexByte l b ↔ b ∈ l := by
  induction l with
  | nil => simp [Lib.indexByte]
  | cons a l ih =>
    have hge := Lib.indexByte_ge l b
    unfold Lib.indexByte
    by_cases h : a = b
    · simp [h]
    · have h2 : (a == b) = false := by simpa using h
      have h3 : ¬ b = a := fun e => h e.symm
      rw [h2]
      by_cases h4 : Lib.indexByte l b = -1
      · have : b ∉ l := by rw [← ih, h4]; decide
        simp [h4, h3, this]
      · have : b ∈ l := by rw [← ih]; omega
        simp [h4, this]; omega

theorem byte_eq (c : Int) (h0 : 0 ≤ c) (h1 : c ≤ 255) (k : Nat) (hk : k < 256) : c.toNat.toUInt8 = UInt8.ofNat k ↔ c = (k : Int) := by
  obtain ⟨n, rfl⟩ := Int.eq_ofNat_of_zero_le h0
  rw [Int.toNat_natCast]
  constructor
  · intro h
    have := congrArg UInt8.toNat h
    simp at this
    omega
  · intro h
    have : n = k := by omega
    subst this; rfl

theorem idxA_nonneg (c : Int) (h0 : 0 ≤ c) (h1 : c ≤ 255) : 0 ≤ idxA c ↔ (c = 47 ∨ c = 58 ∨ c = 59 ∨ c = 61 ∨ c = 64 ∨ c = 91 ∨ c = 92 ∨ c = 93 ∨ c = 124) := by
  have e := fun k hk => byte_eq c h0 h1 k hk
  unfold idxA
  rw [index_nonneg]
  simp only [List.mem_cons, List.not_mem_nil, or_false]
  rw [show (47 : UInt8) = UInt8.ofNat 47 from rfl, show (58 : UInt8) = UInt8.ofNat 58 from rfl, show (59 : UInt8) = UInt8.ofNat 59 from rfl, show (61 : UInt8) = UInt8.ofNat 61 from rfl, show (64 : UInt8) = UInt8.ofNat 64 from rfl,
    show (91 : UInt8) = UInt8.ofNat 91 from rfl, show (92 : UInt8) = UInt8.ofNat 92 from rfl, show (93 : UInt8) = UInt8.ofNat 93 from rfl, show (124 : UInt8) = UInt8.ofNat 124 from rfl]
  rw [e 47 (by omega), e 58 (by omega), e 59 (by omega), e 61 (by omega), e 64 (by omega), e 91 (by omega), e 92 (by omega), e 93 (by omega), e 124 (by omega)]
  simp

theorem idxB_nonneg (c : Int) (h0 : 0 ≤ c) (h1 : c ≤ 255) : 0 ≤ idxB c ↔ (c = 63 ∨ c = 94 ∨ c = 96 ∨ c = 123 ∨ c = 125) := by
  have e := fun k hk => byte_eq c h0 h1 k hk
  unfold idxB
  rw [index_nonneg]
  simp only [List.mem_cons, List.not_mem_nil, or_false]
  rw [show (63 : UInt8) = UInt8.ofNat 63 from rfl, show (94 : UInt8) = UInt8.ofNat 94 from rfl, show (96 : UInt8) = UInt8.ofNat 96 from rfl, show (123 : UInt8) = UInt8.ofNat 123 from rfl, show (125 : UInt8) = UInt8.ofNat 125 from rfl]
  rw [e 63 (by omega), e 94 (by omega), e 96 (by omega), e 123 (by omega), e 125 (by omega)]
  simp

theorem idxC_nonneg (c : Int) (h0 : 0 ≤ c) (h1 : c ≤ 255) : 0 ≤ idxC c ↔ (c = 32 ∨ c = 34 ∨ c = 60 ∨ c = 62) := by
  have e := fun k hk => byte_eq c h0 h1 k hk
  unfold idxC
  rw [index_nonneg]
  simp only [List.mem_cons, List.not_mem_nil, or_false]
  rw [show (32 : UInt8) = UInt8.ofNat 32 from rfl, show (34 : UInt8) = UInt8.ofNat 34 from rfl, show (60 : UInt8) = UInt8.ofNat 60 from rfl, show (62 : UInt8) = UInt8.ofNat 62 from rfl]
  rw [e 32 (by omega), e 34 (by omega), e 60 (by omega), e 62 (by omega)]
  simp

/-- Is the byte one of the set's? -/
abbrev inSetP (c set : Int) : Prop :=
  (1 ≤ set ∧ set ≤ 6) ∧ (c < 32 ∨ 126 < c ∨ (2 ≤ set ∧ (c = 32 ∨ c = 34 ∨ c = 60 ∨ c = 62)) ∨ (set = 2 ∧ c = 96) ∨ (3 ≤ set ∧ c = 35) ∨ (set = 4 ∧ c = 39) ∨ (5 ≤ set ∧ (c = 63 ∨ c = 94 ∨ c = 96 ∨ c = 123 ∨ c = 125)) ∨
    (set = 6 ∧ (c = 47 ∨ c = 58 ∨ c = 59 ∨ c = 61 ∨ c = 64 ∨ c = 91 ∨ c = 92 ∨ c = 93 ∨ c = 124)))

def inSetI (c set : Int) : Bool := decide (inSetP c set)

theorem inSetI_iff (c set : Int) : inSetI c set = true ↔ inSetP c set := by unfold inSetI; exact decide_eq_true_iff

end Go.Proofs.Ytplabofdcnpcpaa
