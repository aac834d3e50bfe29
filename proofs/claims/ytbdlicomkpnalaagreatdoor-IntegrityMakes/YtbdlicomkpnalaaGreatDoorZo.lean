/-
  What ostiaryref8.pad answers, for blocks of 64 bytes; an append of a slice of bytes, nil or not.
  What ostiaryref8.pad answers, for blocks of 128 bytes; an append of a slice of bytes, nil or not.
  Plain facts: the blocks of a text that is filled up, one behind the other, are its whole blocks and then those of its end.
-/
import Derived.Test.YtbdlicomkpnalaaGreatDoorZa
import Derived.Test.YtbdlicomkpnalaaGreatDoorZn
import Derived.Laws.AppendOwn
import Derived.Laws.AppendOwnNone
set_option linter.unusedSimpArgs false
set_option linter.unusedVariables false
namespace Go.Proofs.YtbdlicomkpnalaaGreatDoor
open Go.RowKit

theorem append_sl3 {P : Program} {w : World} {ops : Array Oper} {rest : List Oper} {o : Oper} {a : Act} {Q : Exit → Act → World → Prop} (hgd : o.guard = none) (s x : Operand) (t : TypeId)
    (ho : o.op = .call { callee := .builtin .append, args := #[s, x], argTypes := #[t, t] })
    (base : Nat) (e : TypeId) (i : TypeInfo) (z : Value) (ht : P.underlying t = some (.slice e)) (hi : P.info? e = some i) (hz : i.zero = some z) (hsize : i.size = 1) (hby : i.bytes = 1) (hzs : z.cells.size = 1)
    (v : Value) (n : Nat) (xs : List Value) (hs : a.eval s = v) (hown : w.ownsRow base e 1 v n xs)
    (a0 : Option Addr) (len cap : Nat) (l : List UInt8) (hx : a.eval x = .slice a0 len cap) (hv : SlB w (.slice a0 len cap) l) (hn : a0 = none → cap = 0)
    (h63 : n + l.length ≤ maxLen) (hbytes : n + l.length ≤ 140737488355328) (hbase : base ≤ w.heap.size)
    (h : ∀ v' w', w'.ownsRow base e 1 v' (n + l.length) (xs ++ Lib.byteCells l) → w.grownBy w' v.ownBlock → wpList P ops Q rest (a.put o.dst v') w') : wpList P ops Q (o :: rest) a w := by
  rcases hv with ⟨c, hc, hl⟩ | ⟨x0, c, hc, hcell⟩
  · obtain ⟨rfl, rfl, rfl⟩ := Value.slice.inj hc
    have := hn rfl
    subst this hl
    refine wpList_append_own_none hgd s x t ho base e i 1 ht hi v n xs hs hown hx (h v w (by simpa [Lib.byteCells] using hown) (World.grownBy.refl w _))
  · obtain ⟨rfl, rfl, rfl⟩ := Value.slice.inj hc
    refine wpList_append_own w hgd s x t ho base e i z 1 1 ht hi hz hsize hby hzs (by decide) v n xs hs hown x0 l.length cap (Lib.byteCells l) hx (by rw [Lib.byteCells_length, Nat.mul_one]) ?_ (byte_one l) h63 (by omega) hbase (fun v' w' h1 h2 _ => h v' w' h1 h2)
    intro j u hj
    have hjl : j < l.length := by have := (List.getElem?_eq_some_iff.1 hj).1; rwa [Lib.byteCells_length] at this
    rw [hcell j hjl, ← hj]
    simp [Lib.byteCells, hjl]

/-- How many noughts stand between the mark and the length. -/
def padN3 (n : Nat) : Nat := endLen nar n - n % 64 - 1 - 2 * 4
def lenB3 (n : Nat) : List UInt8 := List.replicate (2 * 4 - 8) 0 ++ bytesV 8 (n * 8)
def padL3 (l : List UInt8) (j : Nat) : List UInt8 := l ++ 128 :: List.replicate j 0

theorem endLen_val3 (n : Nat) : endLen nar n = if n % 64 + 1 + 2 * 4 > 64 then 2 * 64 else 64 := rfl

theorem pad_more3 (n j : Nat) (hj : j < padN3 n) : (n + 1 + j) % 64 ≠ 64 - 2 * 4 := by
  unfold padN3 at hj
  rw [endLen_val3] at hj
  split at hj <;> omega
theorem pad_stop3 (n : Nat) : (n + 1 + padN3 n) % 64 = 64 - 2 * 4 := by
  unfold padN3
  rw [endLen_val3]
  split <;> omega
theorem pad_le3 (n : Nat) : padN3 n ≤ 2 * 64 := by
  unfold padN3
  rw [endLen_val3]
  split <;> omega
theorem len_len3 (n : Nat) : (lenB3 n).length = 2 * 4 := by simp [lenB3, bytes_len]
theorem len_at3 (n k : Nat) (hk : k < 2 * 4) : (lenB3 n)[2 * 4 - 1 - k]? = some (UInt8.ofNat (if k < 8 then n * 8 / 2 ^ (8 * k) % 256 else 0)) := by
  unfold lenB3
  by_cases h : k < 8
  · rw [List.getElem?_append_right (by rw [List.length_replicate]; omega), List.length_replicate, if_pos h, bytes_get 8 (n * 8) _ (by omega)]
    have e : 8 * (8 - 1 - (2 * 4 - 1 - k - (2 * 4 - 8))) = 8 * k := by omega
    rw [e]
  · rw [List.getElem?_append_left (by rw [List.length_replicate]; omega), List.getElem?_replicate, if_pos (by omega), if_neg h]
    rfl

def PdR3 (w wr : World) (v : Value) (n : Nat) (L : List UInt8) : Prop := wr.ownsRow w.heap.size 5 1 v n (Lib.byteCells L) ∧ Below w.heap.size w wr ∧ n = L.length

theorem PdR3.more {w wr w2 : World} {v v' : Value} {n : Nat} {L : List UInt8} {o : Obj} (h : PdR3 w wr v n L) {c : UInt8} (hown : w2.ownsRow w.heap.size 5 1 v' (n + 1) (Lib.byteCells L ++ [.int .u8 (c.toNat : Int)])) (hg : (wr.alloc o).grownBy w2 v.ownBlock) : PdR3 w w2 v' (n + 1) (L ++ [c]) := by
  refine ⟨?_, (h.2.1.alloc h.2.1.size _).grown hg (by have := h.2.1.size; simp; omega) (fun k hk => (h.1.lt k hk).1), by rw [h.2.2]; simp⟩
  rw [show Lib.byteCells (L ++ [c]) = Lib.byteCells L ++ [.int .u8 (c.toNat : Int)] by simp [Lib.byteCells]]
  exact hown

end Go.Proofs.YtbdlicomkpnalaaGreatDoor

namespace Go.Proofs.YtbdlicomkpnalaaGreatDoor
open Go.RowKit

theorem append_sl6 {P : Program} {w : World} {ops : Array Oper} {rest : List Oper} {o : Oper} {a : Act} {Q : Exit → Act → World → Prop} (hgd : o.guard = none) (s x : Operand) (t : TypeId)
    (ho : o.op = .call { callee := .builtin .append, args := #[s, x], argTypes := #[t, t] })
    (base : Nat) (e : TypeId) (i : TypeInfo) (z : Value) (ht : P.underlying t = some (.slice e)) (hi : P.info? e = some i) (hz : i.zero = some z) (hsize : i.size = 1) (hby : i.bytes = 1) (hzs : z.cells.size = 1)
    (v : Value) (n : Nat) (xs : List Value) (hs : a.eval s = v) (hown : w.ownsRow base e 1 v n xs)
    (a0 : Option Addr) (len cap : Nat) (l : List UInt8) (hx : a.eval x = .slice a0 len cap) (hv : SlB w (.slice a0 len cap) l) (hn : a0 = none → cap = 0)
    (h63 : n + l.length ≤ maxLen) (hbytes : n + l.length ≤ 140737488355328) (hbase : base ≤ w.heap.size)
    (h : ∀ v' w', w'.ownsRow base e 1 v' (n + l.length) (xs ++ Lib.byteCells l) → w.grownBy w' v.ownBlock → wpList P ops Q rest (a.put o.dst v') w') : wpList P ops Q (o :: rest) a w := by
  rcases hv with ⟨c, hc, hl⟩ | ⟨x0, c, hc, hcell⟩
  · obtain ⟨rfl, rfl, rfl⟩ := Value.slice.inj hc
    have := hn rfl
    subst this hl
    refine wpList_append_own_none hgd s x t ho base e i 1 ht hi v n xs hs hown hx (h v w (by simpa [Lib.byteCells] using hown) (World.grownBy.refl w _))
  · obtain ⟨rfl, rfl, rfl⟩ := Value.slice.inj hc
    refine wpList_append_own w hgd s x t ho base e i z 1 1 ht hi hz hsize hby hzs (by decide) v n xs hs hown x0 l.length cap (Lib.byteCells l) hx (by rw [Lib.byteCells_length, Nat.mul_one]) ?_ (byte_one l) h63 (by omega) hbase (fun v' w' h1 h2 _ => h v' w' h1 h2)
    intro j u hj
    have hjl : j < l.length := by have := (List.getElem?_eq_some_iff.1 hj).1; rwa [Lib.byteCells_length] at this
    rw [hcell j hjl, ← hj]
    simp [Lib.byteCells, hjl]

/-- How many noughts stand between the mark and the length. -/
def padN6 (n : Nat) : Nat := endLen wid n - n % 128 - 1 - 2 * 8
def lenB6 (n : Nat) : List UInt8 := List.replicate (2 * 8 - 8) 0 ++ bytesV 8 (n * 8)
def padL6 (l : List UInt8) (j : Nat) : List UInt8 := l ++ 128 :: List.replicate j 0

theorem endLen_val6 (n : Nat) : endLen wid n = if n % 128 + 1 + 2 * 8 > 128 then 2 * 128 else 128 := rfl

theorem pad_more6 (n j : Nat) (hj : j < padN6 n) : (n + 1 + j) % 128 ≠ 128 - 2 * 8 := by
  unfold padN6 at hj
  rw [endLen_val6] at hj
  split at hj <;> omega
theorem pad_stop6 (n : Nat) : (n + 1 + padN6 n) % 128 = 128 - 2 * 8 := by
  unfold padN6
  rw [endLen_val6]
  split <;> omega
theorem pad_le6 (n : Nat) : padN6 n ≤ 2 * 128 := by
  unfold padN6
  rw [endLen_val6]
  split <;> omega
theorem len_len6 (n : Nat) : (lenB6 n).length = 2 * 8 := by simp [lenB6, bytes_len]
theorem len_at6 (n k : Nat) (hk : k < 2 * 8) : (lenB6 n)[2 * 8 - 1 - k]? = some (UInt8.ofNat (if k < 8 then n * 8 / 2 ^ (8 * k) % 256 else 0)) := by
  unfold lenB6
  by_cases h : k < 8
  · rw [List.getElem?_append_right (by rw [List.length_replicate]; omega), List.length_replicate, if_pos h, bytes_get 8 (n * 8) _ (by omega)]
    have e : 8 * (8 - 1 - (2 * 8 - 1 - k - (2 * 8 - 8))) = 8 * k := by omega
    rw [e]
  · rw [List.getElem?_append_left (by rw [List.length_replicate]; omega), List.getElem?_replicate, if_pos (by omega), if_neg h]
    rfl

def PdR6 (w wr : World) (v : Value) (n : Nat) (L : List UInt8) : Prop := wr.ownsRow w.heap.size 5 1 v n (Lib.byteCells L) ∧ Below w.heap.size w wr ∧ n = L.length

theorem PdR6.more {w wr w2 : World} {v v' : Value} {n : Nat} {L : List UInt8} {o : Obj} (h : PdR6 w wr v n L) {c : UInt8} (hown : w2.ownsRow w.heap.size 5 1 v' (n + 1) (Lib.byteCells L ++ [.int .u8 (c.toNat : Int)])) (hg : (wr.alloc o).grownBy w2 v.ownBlock) : PdR6 w w2 v' (n + 1) (L ++ [c]) := by
  refine ⟨?_, (h.2.1.alloc h.2.1.size _).grown hg (by have := h.2.1.size; simp; omega) (fun k hk => (h.1.lt k hk).1), by rw [h.2.2]; simp⟩
  rw [show Lib.byteCells (L ++ [c]) = Lib.byteCells L ++ [.int .u8 (c.toNat : Int)] by simp [Lib.byteCells]]
  exact hown

end Go.Proofs.YtbdlicomkpnalaaGreatDoor

namespace Go.Proofs.YtbdlicomkpnalaaGreatDoor
open Go.RowKit

theorem work_snoc (k : Kd) (Ks : List Nat) (n : Nat) : ∀ (m : Nat) (s : St) (l : List UInt8), (m + 1) * n ≤ l.length → workV k Ks n (m + 1) s l = foldV k Ks (workV k Ks n m s l) ((l.drop (m * n)).take n)
  | 0, s, l, h => by
    rw [show workV k Ks n (0 + 1) s l = if n ≤ l.length then workV k Ks n 0 (foldV k Ks s (l.take n)) (l.drop n) else s from rfl, if_pos (by simpa using h)]
    simp [workV]
  | m + 1, s, l, h => by
    have h1 : n ≤ l.length := by rw [Nat.succ_mul] at h; omega
    have h2 : (m + 1) * n ≤ (l.drop n).length := by rw [Nat.succ_mul] at h; rw [List.length_drop]; omega
    rw [workV, if_pos h1, work_snoc k Ks n m _ _ h2, List.drop_drop, show workV k Ks n (m + 1) s l = workV k Ks n m (foldV k Ks s (l.take n)) (l.drop n) by rw [workV, if_pos h1], Nat.succ_mul, Nat.add_comm n]

theorem work_app (k : Kd) (Ks : List Nat) (n : Nat) : ∀ (m : Nat) (s : St) (l r : List UInt8), m * n ≤ l.length → workV k Ks n m s (l ++ r) = workV k Ks n m s l
  | 0, s, l, r, h => rfl
  | m + 1, s, l, r, h => by
    have h1 : n ≤ l.length := by rw [Nat.succ_mul] at h; omega
    have h2 : m * n ≤ (l.drop n).length := by rw [Nat.succ_mul] at h; rw [List.length_drop]; omega
    rw [workV, if_pos (by rw [List.length_append]; omega), workV, if_pos h1, List.take_append_of_le_length h1, List.drop_append_of_le_length h1, work_app k Ks n m _ _ _ h2]

theorem work_add (k : Kd) (Ks : List Nat) (n j : Nat) : ∀ (m : Nat) (s : St) (l : List UInt8), m * n ≤ l.length → workV k Ks n (m + j) s l = workV k Ks n j (workV k Ks n m s l) (l.drop (m * n))
  | 0, s, l, h => by simp [workV]
  | m + 1, s, l, h => by
    have h1 : n ≤ l.length := by rw [Nat.succ_mul] at h; omega
    have h2 : m * n ≤ (l.drop n).length := by rw [Nat.succ_mul] at h; rw [List.length_drop]; omega
    rw [show m + 1 + j = (m + j) + 1 by omega, workV, if_pos h1, work_add k Ks n j m _ _ h2, List.drop_drop, show workV k Ks n (m + 1) s l = workV k Ks n m (foldV k Ks s (l.take n)) (l.drop n) by rw [workV, if_pos h1], Nat.succ_mul, Nat.add_comm n]

theorem work_more (k : Kd) (Ks : List Nat) (n j : Nat) (s : St) (l : List UInt8) (m : Nat) (h : m * n ≤ l.length) (h2 : l.length < (m + 1) * n) : workV k Ks n (m + j) s l = workV k Ks n m s l := by
  rw [work_add k Ks n j m s l h]
  cases j with
  | zero => rfl
  | succ j => rw [workV, if_neg (by rw [Nat.succ_mul] at h2; rw [List.length_drop]; omega)]

theorem pad_doc (k : Kd) (Ks : List Nat) (s : St) (l : List UInt8) (pd M : Nat) (r : List UInt8) (h0 : 0 < k.size) (he : endLen k l.length = k.size ∨ endLen k l.length = 2 * k.size)
    (hr : (128 : UInt8) :: r = 128 :: (List.replicate (endLen k l.length - l.length % k.size - 9) 0 ++ bytesV 8 (l.length * 8))) (hlen : M * k.size = l.length - l.length % k.size + endLen k l.length) (hend : (endV k l).length = endLen k l.length) :
    workV k Ks k.size M s (l ++ 128 :: r) = workV k Ks k.size 2 (workV k Ks k.size (l.length / k.size) s l) (endV k l) := by
  have hq : l.length / k.size * k.size = l.length - l.length % k.size := by
    have := Nat.div_add_mod' l.length k.size
    omega
  have hqle : l.length / k.size * k.size ≤ l.length := by omega
  have hend2 : (l ++ 128 :: r).drop (l.length / k.size * k.size) = endV k l := by
    rw [List.drop_append_of_le_length hqle, hr, hq]; rfl
  have key : ∀ j, M = l.length / k.size + j → workV k Ks k.size M s (l ++ 128 :: r) = workV k Ks k.size j (workV k Ks k.size (l.length / k.size) s l) (endV k l) := by
    intro j hj
    rw [hj, work_add k Ks k.size j _ s _ (by rw [List.length_append]; omega), work_app k Ks k.size _ s l _ hqle, hend2]
  rcases he with he | he
  · have hM : M = l.length / k.size + 1 := by
      apply Nat.eq_of_mul_eq_mul_right h0
      rw [hlen, he, Nat.succ_mul, hq]
    rw [key 1 hM]
    exact (work_more k Ks k.size 1 _ _ 1 (by rw [hend, he]; omega) (by rw [hend, he]; omega)).symm
  · have hM : M = l.length / k.size + 2 := by
      apply Nat.eq_of_mul_eq_mul_right h0
      rw [hlen, he, Nat.add_mul, hq]
    exact key 2 hM

theorem pad_doc3 (Ks : List Nat) (s : St) (l : List UInt8) (M : Nat) (hM : M * 64 = (padL3 l (padN3 l.length) ++ lenB3 l.length).length) :
    workV nar Ks 64 M s (padL3 l (padN3 l.length) ++ lenB3 l.length) = workV nar Ks 64 2 (workV nar Ks 64 (l.length / 64) s l) (endV nar l) := by
  have hz : nar.size = 64 := rfl
  have hlt := Nat.mod_lt l.length (show 64 > 0 by decide)
  have hp : padL3 l (padN3 l.length) ++ lenB3 l.length = l ++ 128 :: (List.replicate (padN3 l.length) 0 ++ lenB3 l.length) := by simp [padL3]
  rw [hp]
  have hpn : padN3 l.length = endLen nar l.length - l.length % 64 - 9 := by unfold padN3; omega
  have hel : l.length % 64 + 9 ≤ endLen nar l.length := by rw [endLen_val3]; split <;> omega
  refine pad_doc nar Ks s l 0 M _ (by decide) ?_ ?_ ?_ ?_
  · rw [endLen_val3, hz]; split
    · exact .inr rfl
    · exact .inl rfl
  · rw [hpn, hz]; simp [lenB3]
  · rw [hp] at hM
    rw [hz, hM]
    simp [len_len3, hpn]
    omega
  · exact end_len nar l (by rw [hz]; exact hel)

theorem pad_doc6 (Ks : List Nat) (s : St) (l : List UInt8) (M : Nat) (hM : M * 128 = (padL6 l (padN6 l.length) ++ lenB6 l.length).length) :
    workV wid Ks 128 M s (padL6 l (padN6 l.length) ++ lenB6 l.length) = workV wid Ks 128 2 (workV wid Ks 128 (l.length / 128) s l) (endV wid l) := by
  have hz : wid.size = 128 := rfl
  have hlt := Nat.mod_lt l.length (show 128 > 0 by decide)
  have hp : padL6 l (padN6 l.length) ++ lenB6 l.length = l ++ 128 :: (List.replicate (padN6 l.length) 0 ++ lenB6 l.length) := by simp [padL6]
  rw [hp]
  have hpn : padN6 l.length = endLen wid l.length - l.length % 128 - 17 := by unfold padN6; omega
  have hel : l.length % 128 + 17 ≤ endLen wid l.length := by rw [endLen_val6]; split <;> omega
  refine pad_doc wid Ks s l 0 M _ (by decide) ?_ ?_ ?_ ?_
  · rw [endLen_val6, hz]; split
    · exact .inr rfl
    · exact .inl rfl
  · rw [hpn, hz]
    unfold lenB6
    rw [← List.append_assoc, List.replicate_append_replicate, show endLen wid l.length - l.length % 128 - 17 + (2 * 8 - 8) = endLen wid l.length - l.length % 128 - 9 by omega]
  · rw [hp] at hM
    rw [hz, hM]
    simp [len_len6, hpn]
    omega
  · exact end_len wid l (by rw [hz]; omega)

theorem pad_whole3 (l : List UInt8) : ∃ M, M * 64 = (padL3 l (padN3 l.length) ++ lenB3 l.length).length ∧ M ≤ l.length / 64 + 2 := by
  have hlt := Nat.mod_lt l.length (show 64 > 0 by decide)
  have hd := Nat.div_add_mod' l.length 64
  rcases (show endLen nar l.length = 64 ∨ endLen nar l.length = 128 by rw [endLen_val3]; split <;> omega) with h | h
  · refine ⟨l.length / 64 + 1, ?_, by omega⟩
    have h9 : l.length % 64 + 9 ≤ 64 := by rw [endLen_val3] at h; split at h <;> omega
    simp [padL3, len_len3, padN3, h]; omega
  · refine ⟨l.length / 64 + 2, ?_, by omega⟩
    simp [padL3, len_len3, padN3, h]; omega
theorem pad_whole6 (l : List UInt8) : ∃ M, M * 128 = (padL6 l (padN6 l.length) ++ lenB6 l.length).length ∧ M ≤ l.length / 128 + 2 := by
  have hlt := Nat.mod_lt l.length (show 128 > 0 by decide)
  have hd := Nat.div_add_mod' l.length 128
  rcases (show endLen wid l.length = 128 ∨ endLen wid l.length = 256 by rw [endLen_val6]; split <;> omega) with h | h
  · refine ⟨l.length / 128 + 1, ?_, by omega⟩
    have h9 : l.length % 128 + 17 ≤ 128 := by rw [endLen_val6] at h; split at h <;> omega
    simp [padL6, len_len6, padN6, h]; omega
  · refine ⟨l.length / 128 + 2, ?_, by omega⟩
    simp [padL6, len_len6, padN6, h]; omega

end Go.Proofs.YtbdlicomkpnalaaGreatDoor
