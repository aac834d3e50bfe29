/-
  Plain facts: a slice of bytes in memory, and what it reads as; texts decoded as UTF-8.
-/
import Derived.Test.YtplabofdcnpcpaaPr
import Derived.Test.YtplabofdcnpcpaaPb
import Derived.Lib.BufferRead
import Derived.Lib.RuneBytes
import Derived.Laws.RangeAny
set_option linter.unusedSimpArgs false
set_option linter.unusedVariables false
namespace Go.Proofs.Ytplabofdcnpcpaa
open Go.RowKit

/-- The slice v reads as the bytes l. -/
def SlB (w : World) (v : Value) (l : List UInt8) : Prop :=
  (∃ c, v = .slice none 0 c ∧ l = []) ∨ ∃ x cap, v = .slice (some x) l.length cap ∧ ∀ j (h : j < l.length), w.cell? (x.add j) = some (.int .u8 (l[j].toNat : Int))

theorem SlB.string {P : Program} {w : World} {v : Value} {l : List UInt8} {e src dst : TypeId} (h : SlB w v l) (hs : P.underlying src = some (.slice e)) (he : P.underlying e = some (.int .u8)) (hd : P.underlying dst = some .string) :
    (convert src dst v).run P w = .ok (.string ⟨l.toArray⟩) w := by
  rcases h with ⟨c, rfl, rfl⟩ | ⟨x, cap, rfl, hc⟩
  · exact Lib.run_convert_nil_bytes w src dst e c hs he hd
  · exact run_convert_bytes_back w src dst e x cap l hs he hd hc

theorem SlB.below {w w' : World} {v : Value} {l : List UInt8} {B : Nat} (h : SlB w v l) (hb : Below B w w') (hB : ∀ x n c, v = .slice (some x) n c → ∀ j, j < l.length → (x.add j).block < B) : SlB w' v l := by
  rcases h with h | ⟨x, cap, rfl, hc⟩
  · exact .inl h
  · exact .inr ⟨x, cap, rfl, fun j hj => (hb.cell (hB x _ _ rfl j hj)).trans (hc j hj)⟩

theorem SlB.kept {w w' : World} {v : Value} {l : List UInt8} (h : SlB w v l) (hb : Below w.heap.size w w') : SlB w' v l := by
  refine h.below hb ?_
  rcases h with ⟨c, rfl, rfl⟩ | ⟨x, cap, rfl, hc⟩
  · intro x n c' e j hj; simp at hj
  · intro x' n c' e j hj
    obtain ⟨e1, _, _⟩ := Value.slice.inj e
    obtain rfl := Option.some.inj e1
    exact World.block_lt_of_cell? w _ (hc j hj)

theorem SlB.alloc {w : World} {v : Value} {l : List UInt8} (h : SlB w v l) (o : Obj) : SlB (w.alloc o) v l := h.kept ((Below.refl _ w).alloc (Nat.le_refl _) o)

theorem SlB.len {w : World} {v : Value} {l : List UInt8} (h : SlB w v l) : ∃ a cap, v = .slice a l.length cap := by
  rcases h with ⟨c, rfl, rfl⟩ | ⟨x, cap, rfl, hc⟩
  · exact ⟨none, c, rfl⟩
  · exact ⟨some x, cap, rfl⟩

/-- A new block that holds the bytes. -/
theorem SlB.laid (w : World) (C : Array Value) (e : TypeId) (fz : Nat × Nat) (l : List UInt8) (cap : Nat) (h : C = (Lib.byteCells l).toArray) : SlB (w.alloc (.cells C e fz)) (.slice (some ⟨w.heap.size, 0, none⟩) l.length cap) l := by
  refine .inr ⟨_, cap, rfl, fun j hj => ?_⟩
  rw [Addr.add_lit, Nat.zero_add, World.cell?_alloc_mark, h]
  simp [Lib.byteCells, hj]

/-- What an owned row reads as. -/
theorem SlB.own {w : World} {B : Nat} {e : TypeId} {v : Value} {l : List UInt8} (h : w.ownsRow B e 1 v l.length (Lib.byteCells l)) : SlB w v l := by
  rcases h.2 with ⟨rfl, h0⟩ | ⟨g, cap, cur, rfl, _⟩
  · exact .inl ⟨0, rfl, List.eq_nil_of_length_eq_zero h0⟩
  · exact .inr ⟨_, cap, rfl, fun j hj => h.cells (g := g) rfl j _ (by simp [Lib.byteCells, hj])⟩

theorem SlB.take {w : World} {a : Option Addr} {len cap : Nat} {l : List UInt8} (h : SlB w (.slice a len cap) l) (n : Nat) (hn : n < l.length) : SlB w (.slice a n cap) (l.take n) := by
  rcases h with ⟨c, e, rfl⟩ | ⟨x, c, e, hc⟩
  · simp at hn
  · obtain ⟨rfl, rfl, rfl⟩ := Value.slice.inj e
    refine .inr ⟨x, cap, by congr 1; simp; omega, fun j hj => ?_⟩
    have hj' : j < l.length := by simp at hj; omega
    rw [hc j hj']; simp

/-- A slice that came in reads as bytes. -/
theorem IsRow.bytes {w : World} {a : Option Addr} {len cap : Nat} {zs : List Int} (h : IsRow .u8 w a len cap zs) : ∃ l : List UInt8, l.length = len ∧ SlB w (.slice a len cap) l ∧ len ≤ cap ∧ cap ≤ maxLen := by
  rcases h with ⟨rfl, rfl, rfl, rfl⟩ | ⟨x, rfl, hlc, hcm, hz, hcell, hwf⟩
  · exact ⟨[], rfl, .inl ⟨0, rfl, rfl⟩, Nat.le_refl _, by unfold maxLen; omega⟩
  · refine ⟨(zs.take len).map fun n => UInt8.ofNat n.toNat, by simp; omega, .inr ⟨x, cap, by congr 1; simp; omega, ?_⟩, hlc, hcm⟩
    intro j hj
    have hj' : j < len ∧ j < zs.length := by simp at hj; omega
    have hwfj := hwf zs[j] (List.getElem_mem hj'.2)
    have hb : 0 ≤ zs[j] ∧ zs[j] ≤ 255 := by simpa [Lit.wf, IntKind.min, IntKind.max, IntKind.bits, IntKind.signed] using hwfj
    rw [hcell j hj'.2]
    have e : zs.getD j 0 = zs[j] := by simp [List.getD, hj'.2]
    rw [e]
    congr 2
    simp
    omega

/-- From place pos on, by at most fuel runes: each rune encoded anew. -/
def recFrom (s : ByteArray) : Nat → Nat → List UInt8
  | 0, _ => []
  | fuel + 1, pos => if pos < s.size then Lib.encodeRune (Utf8.decode s pos).1 ++ recFrom s fuel (pos + (Utf8.decode s pos).2) else []
def recode (s : ByteArray) : List UInt8 := recFrom s s.size 0

def bom : List UInt8 := [239, 187, 191]
def dec (l : List UInt8) : List UInt8 := recode ⟨(Lib.trimPrefix l bom).toArray⟩

theorem width_pos (s : ByteArray) (pos : Nat) (h : pos < s.size) : 1 ≤ (Utf8.decode s pos).2 := by
  by_cases ha : (s[pos]'h).toNat < 128
  · rw [decode_ascii s pos h ha]
    exact Nat.le_refl _
  · exact (decode_high s pos h (by omega)).2

theorem recFrom_end (s : ByteArray) (fuel pos : Nat) (h : ¬ pos < s.size) : recFrom s fuel pos = [] := by
  cases fuel with
  | zero => rfl
  | succ f => simp [recFrom, h]

end Go.Proofs.Ytplabofdcnpcpaa
