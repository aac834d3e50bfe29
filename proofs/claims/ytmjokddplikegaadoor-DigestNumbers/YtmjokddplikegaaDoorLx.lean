/-
  Plain facts about the bytes of words.
-/
import Derived.Test.YtmjokddplikegaaDoorLr
import Derived.Test.YtmjokddplikegaaDoorLs
set_option linter.unusedSimpArgs false
set_option linter.unusedVariables false
namespace Go.Proofs.YtmjokddplikegaaDoor
open Go.RowKit

theorem infoByte8 : (Tryd.prog.info? 5).map (fun i => (i.zero, i.size, i.bytes)) = some (some (.int .u8 0), 1, 1) := by kernel_rfl

theorem bytes_len : ∀ (n x : Nat), (bytesV n x).length = n
  | 0, _ => rfl
  | n + 1, x => by rw [bytesV, List.length_append, bytes_len n]; rfl

theorem bytes_get : ∀ (n x j : Nat) (hj : j < n), (bytesV n x)[j]? = some (UInt8.ofNat (x / 2 ^ (8 * (n - 1 - j)) % 256))
  | n + 1, x, j, hj => by
    rw [bytesV]
    rcases Nat.lt_or_ge j n with h | h
    · rw [List.getElem?_append_left (by rw [bytes_len]; exact h), bytes_get n (x / 256) j h, Nat.div_div_eq_div_mul]
      congr 4
      rw [show (256 : Nat) = 2 ^ 8 by decide, ← Nat.pow_add]
      congr 1
      omega
    · obtain rfl : j = n := by omega
      rw [List.getElem?_append_right (by rw [bytes_len]; exact Nat.le_refl _), bytes_len]
      simp

theorem told_take (k : Kd) (s : St) (n : Nat) (hn : n ≤ 8) : (toldV k s).take (n * k.B) = (s.list.take n).flatMap (bytesV k.B) := by
  have key : ∀ (l : List Nat) (n : Nat), n ≤ l.length → (l.flatMap (bytesV k.B)).take (n * k.B) = (l.take n).flatMap (bytesV k.B) := by
    intro l
    induction l with
    | nil => intro n hn; obtain rfl : n = 0 := by simpa using hn
             simp
    | cons x r ih =>
      intro n hn
      cases n with
      | zero => simp
      | succ n =>
        rw [List.flatMap_cons, List.take_succ_cons, List.flatMap_cons, Nat.succ_mul, Nat.add_comm, List.take_append, bytes_len, List.take_of_length_le (by rw [bytes_len]; omega), Nat.add_sub_cancel_left, ih n (by simpa using hn)]
  exact key s.list n hn

theorem bd_get {n : Nat} {a b c d e f g h : Nat} (hb : BdS n ⟨a, b, c, d, e, f, g, h⟩) (i : Nat) : [a, b, c, d, e, f, g, h].getD i 0 < n := by
  obtain ⟨ha, hb, hc, hd, he, hf, hg, hh⟩ := hb
  rcases Nat.lt_or_ge i 8 with h' | h'
  · rcases (show i = 0 ∨ i = 1 ∨ i = 2 ∨ i = 3 ∨ i = 4 ∨ i = 5 ∨ i = 6 ∨ i = 7 by omega) with rfl | rfl | rfl | rfl | rfl | rfl | rfl | rfl <;> assumption
  · simp only [List.getD]
    rw [List.getElem?_eq_none (by simpa using h')]
    simp only [Option.getD_none]
    dsimp only at ha
    omega

/-- A new list of bytes with room for n, empty yet. -/
theorem own_made (w : World) (B n : Nat) (e : TypeId) (hB : B ≤ w.heap.size) (hn : n ≤ maxLen) : (w.alloc (.cells (Array.replicate n (.int .u8 0)) e)).ownsRow B e 1 (.slice (some ⟨w.heap.size, 0, none⟩) 0 n) 0 [] := by
  refine ⟨rfl, .inr ⟨w.heap.size, n, _, rfl, hB, heap_alloc_new w _, Nat.zero_le _, hn, by simp, by simp⟩⟩

theorem grown_row {X Y : World} {g k : Nat} {o : Obj} (hg : X.grownBy Y (some g)) (h : X.heap[k]? = some o) (hne : k ≠ g) : Y.heap[k]? = some o := by
  rw [hg.block k (Array.getElem?_eq_some_iff.1 h).1 (by simpa using hne)]
  exact h

theorem setCells_far {b k : Nat} (hne : k ≠ b) : ∀ (vs : List Value) (o : Nat) (w : World), (w.setCells b o vs).heap[k]? = w.heap[k]?
  | [], _, _ => rfl
  | v :: r, o, w => by rw [World.setCells, setCells_far hne r (o + 1) _, Below.heap_setCell w ⟨b, o, none⟩ v k hne]

end Go.Proofs.YtmjokddplikegaaDoor
