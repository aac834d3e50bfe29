/-
  What ostiaryref8.pad answers, for blocks of 64 bytes; an append of a slice of bytes, nil or not.
-/
import Derived.Test.YtbdlicomkpnalaaDoorZ0
import Derived.Test.YtbdlicomkpnalaaDoorZIf
import Derived.Laws.AppendOwn
import Derived.Laws.AppendOwnNone
set_option linter.unusedSimpArgs false
set_option linter.unusedVariables false
namespace Go.Proofs.YtbdlicomkpnalaaDoor
open Go.RowKit

theorem append_sl3 {P : Program} {w : World} {ops : Array Oper} {rest : List Oper} {o : Oper} {a : Act} {Q : Exit → Act → World → Prop} (hgd : o.guard = none) (s x : Operand) (t : TypeId)
    (ho : o.op = .call { callee := .builtin .append, args := #[s, x], argTypes := #[t, t] })
    (base : Nat) (e : TypeId) (i : TypeInfo) (z : Value) (ht : P.underlying t = some (.slice e)) (hi : P.info? e = some i) (hz : i.zero = some z) (hsize : i.size = 1) (hby : i.bytes = 1) (hzs : z.cells.size = 1)
    (v : Value) (n : Nat) (xs : List Value) (hs : a.eval s = v) (hown : w.ownsRow base e 1 v n xs)
    (a0 : Option Addr) (len cap : Nat) (l : List UInt8) (hx : a.eval x = .slice a0 len cap) (hv : SlB w (.slice a0 len cap) l) (hn : a0 = none → cap = 0)
    (h63 : n + l.length ≤ maxLen) (hbytes : n + l.length ≤ 140737488355328) (hbase : base ≤ w.heap.size)
    (h : ∀ v' w', w'.ownsRow base e 1 v' (n + l.length) (xs ++ Lib.byteCells l) → w.grownBy w' v.ownBlock → wpList P ops Q rest (a.put o.dst v') w') : wpList P ops Q (o :: rest) a w := by
  rcases hv with ⟨c, hc, hl⟩ | ⟨x0, c, hc, hcell⟩
  · obtain ⟨rfl, rfl, rfl⟩ := Value.slice.inj hc
    have := hn rfl
    subst this hl
    refine wpList_append_own_none hgd s x t ho base e i 1 ht hi v n xs hs hown hx (h v w (by simpa [Lib.byteCells] using hown) (World.grownBy.refl w _))
  · obtain ⟨rfl, rfl, rfl⟩ := Value.slice.inj hc
    refine wpList_append_own w hgd s x t ho base e i z 1 1 ht hi hz hsize hby hzs (by decide) v n xs hs hown x0 l.length cap (Lib.byteCells l) hx (by rw [Lib.byteCells_length, Nat.mul_one]) ?_ (byte_one l) h63 (by omega) hbase (fun v' w' h1 h2 _ => h v' w' h1 h2)
    intro j u hj
    have hjl : j < l.length := by have := (List.getElem?_eq_some_iff.1 hj).1; rwa [Lib.byteCells_length] at this
    rw [hcell j hjl, ← hj]
    simp [Lib.byteCells, hjl]

/-- How many noughts stand between the mark and the length. -/
def padN3 (n : Nat) : Nat := endLen nar n - n % 64 - 1 - 2 * 4
def lenB3 (n : Nat) : List UInt8 := List.replicate (2 * 4 - 8) 0 ++ bytesV 8 (n * 8)
def padL3 (l : List UInt8) (j : Nat) : List UInt8 := l ++ 128 :: List.replicate j 0

theorem endLen_val3 (n : Nat) : endLen nar n = if n % 64 + 1 + 2 * 4 > 64 then 2 * 64 else 64 := rfl

theorem pad_more3 (n j : Nat) (hj : j < padN3 n) : (n + 1 + j) % 64 ≠ 64 - 2 * 4 := by
  unfold padN3 at hj
  rw [endLen_val3] at hj
  split at hj <;> omega
theorem pad_stop3 (n : Nat) : (n + 1 + padN3 n) % 64 = 64 - 2 * 4 := by
  unfold padN3
  rw [endLen_val3]
  split <;> omega
theorem pad_le3 (n : Nat) : padN3 n ≤ 2 * 64 := by
  unfold padN3
  rw [endLen_val3]
  split <;> omega
theorem len_len3 (n : Nat) : (lenB3 n).length = 2 * 4 := by simp [lenB3, bytes_len]
theorem len_at3 (n k : Nat) (hk : k < 2 * 4) : (lenB3 n)[2 * 4 - 1 - k]? = some (UInt8.ofNat (if k < 8 then n * 8 / 2 ^ (8 * k) % 256 else 0)) := by
  unfold lenB3
  by_cases h : k < 8
  · rw [List.getElem?_append_right (by rw [List.length_replicate]; omega), List.length_replicate, if_pos h, bytes_get 8 (n * 8) _ (by omega)]
    have e : 8 * (8 - 1 - (2 * 4 - 1 - k - (2 * 4 - 8))) = 8 * k := by omega
    rw [e]
  · rw [List.getElem?_append_left (by rw [List.length_replicate]; omega), List.getElem?_replicate, if_pos (by omega), if_neg h]
    rfl

def PdR3 (w wr : World) (v : Value) (n : Nat) (L : List UInt8) : Prop := wr.ownsRow w.heap.size 5 1 v n (Lib.byteCells L) ∧ Below w.heap.size w wr ∧ n = L.length

theorem PdR3.more {w wr w2 : World} {v v' : Value} {n : Nat} {L : List UInt8} {o : Obj} (h : PdR3 w wr v n L) {c : UInt8} (hown : w2.ownsRow w.heap.size 5 1 v' (n + 1) (Lib.byteCells L ++ [.int .u8 (c.toNat : Int)])) (hg : (wr.alloc o).grownBy w2 v.ownBlock) : PdR3 w w2 v' (n + 1) (L ++ [c]) := by
  refine ⟨?_, (h.2.1.alloc h.2.1.size _).grown hg (by have := h.2.1.size; simp; omega) (fun k hk => (h.1.lt k hk).1), by rw [h.2.2]; simp⟩
  rw [show Lib.byteCells (L ++ [c]) = Lib.byteCells L ++ [.int .u8 (c.toNat : Int)] by simp [Lib.byteCells]]
  exact hown

end Go.Proofs.YtbdlicomkpnalaaDoor
