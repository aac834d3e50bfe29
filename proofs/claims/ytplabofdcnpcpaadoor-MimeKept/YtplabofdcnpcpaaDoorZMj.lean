/-
  The walks of mime's written, Essence and Text, and of strings.Builder's WriteString.
-/
import Derived.Test.YtplabofdcnpcpaaDoorZMi
import Derived.Test.YtplabofdcnpcpaaDoorZGb
import Derived.Lib.AppendStr
import Derived.Lib.Replace
import Derived.Deep.RegionWith
set_option linter.unusedSimpArgs false
set_option linter.unusedVariables false
namespace Go.Proofs.YtplabofdcnpcpaaDoor
open Go.RowKit

theorem split6 (c : UInt8) : ∀ l : List UInt8, c ∉ l ∨ ∃ a r, c ∉ a ∧ l = a ++ c :: r
  | [] => .inl (by simp)
  | x :: l => by
    by_cases hx : x = c
    · exact .inr ⟨[], l, by simp, by simp [hx]⟩
    · rcases split6 c l with h | ⟨a, r, ha, rfl⟩
      · exact .inl (by simp [h]; exact fun e => hx e.symm)
      · exact .inr ⟨x :: a, r, by simp [ha]; exact fun e => hx e.symm, rfl⟩

/-- One byte by others. -/
def repC (o : UInt8) (new : List UInt8) (c : UInt8) : List UInt8 := if c = o then new else [c]

theorem rep_none (o : UInt8) (new l : List UInt8) (h : o ∉ l) : l.flatMap (repC o new) = l := by
  induction l with
  | nil => rfl
  | cons c l ih =>
    have hc : c ≠ o := fun e => h (by simp [e])
    have hl : o ∉ l := fun e => h (by simp [e])
    rw [List.flatMap_cons, ih hl, repC, if_neg hc]; rfl

theorem rep_k (o : UInt8) (new : List UInt8) : ∀ (n : Nat) (l : List UInt8), l.count o ≤ n → Lib.replaceK [o] new n l = l.flatMap (repC o new) := by
  intro n
  induction n with
  | zero =>
    intro l h
    rw [Lib.replaceK, rep_none o new l]
    exact List.count_eq_zero.1 (by omega)
  | succ n ih =>
    intro l h
    rcases split6 o l with h1 | ⟨a, r, h1, rfl⟩
    · rw [Lib.replaceK, xindex_none l o h1, rep_none o new l h1]; rfl
    · rw [Lib.replaceK_hit [o] new n _ a.length (xindex_some a r o h1)]
      have hc : r.count o ≤ n := by
        rw [List.count_append, List.count_cons] at h
        simp at h; omega
      have e1 : (a ++ o :: r).take a.length = a := by simp
      have e2 : (a ++ o :: r).drop (a.length + [o].length) = r := by simp
      rw [e1, e2, ih r hc, List.flatMap_append, List.flatMap_cons, rep_none o new a h1, repC, if_pos rfl, List.append_assoc]

theorem count6 (c : UInt8) : ∀ (f : Nat) (l : List UInt8), l.length < f → Lib.countFrom [c] f l = l.count c := by
  intro f
  induction f with
  | zero => intro l h; omega
  | succ f ih =>
    intro l h
    rcases split6 c l with h1 | ⟨a, r, h1, rfl⟩
    · rw [Lib.countFrom, xindex_none l c h1, List.count_eq_zero.2 h1]; rfl
    · rw [Lib.countFrom, xindex_some a r c h1]
      have e : ((a.length : Int) == -1) = false := by rw [beq_eq_false_iff_ne]; omega
      have e2 : (a ++ c :: r).drop (a.length + [c].length) = r := by simp
      simp only [e, Int.toNat_natCast, e2]
      rw [ih r (by simp at h; omega), List.count_append, List.count_cons, List.count_eq_zero.2 h1]
      simp; omega

theorem rep_all (o : UInt8) (new l : List UInt8) (h : ([o] == new) = false) : Lib.replaceAll l [o] new = l.flatMap (repC o new) := by
  unfold Lib.replaceAll Lib.replace
  rw [h, if_neg (by simp)]
  refine rep_k o new _ l ?_
  unfold Lib.replaceNum
  rw [if_pos (.inl (by decide))]
  unfold Lib.count
  rw [count6 o _ l (by omega)]
  exact Nat.le_refl _

theorem countB6 (s : ByteArray) (o : UInt8) : Lib.countB s ⟨#[o]⟩ ≤ s.size := by
  show Lib.count s.data.toList [o] ≤ s.size
  unfold Lib.count
  rw [count6 o _ _ (by omega), Lib.size_eq]
  exact List.count_le_length

theorem esc_two (v : List UInt8) : (v.flatMap (repC 92 [92, 92])).flatMap (repC 34 [92, 34]) = v.flatMap escC := by
  induction v with
  | nil => rfl
  | cons c v ih =>
    rw [List.flatMap_cons, List.flatMap_append, ih, List.flatMap_cons]
    congr 1
    unfold repC escC
    by_cases h1 : c = 92
    · subst h1; decide
    · by_cases h2 : c = 34
      · subst h2; decide
      · rw [if_neg h1, if_neg (by simp [h1, h2])]
        simp [h2]

theorem rep_len (o : UInt8) (new : List UInt8) (hn : new.length = 2) (l : List UInt8) : (l.flatMap (repC o new)).length ≤ 2 * l.length := by
  induction l with
  | nil => simp
  | cons c l ih =>
    rw [List.flatMap_cons, List.length_append, List.length_cons]
    have : (repC o new c).length ≤ 2 := by unfold repC; split <;> simp [hn]
    omega

theorem esc_len (l : List UInt8) : (l.flatMap escC).length ≤ 2 * l.length := by
  induction l with
  | nil => simp
  | cons c l ih =>
    rw [List.flatMap_cons, List.length_append, List.length_cons]
    have : (escC c).length ≤ 2 := by unfold escC; split <;> simp
    omega

theorem wrt_len (v : List UInt8) : (wrtV v).length ≤ 2 * v.length + 2 := by
  unfold wrtV
  have := esc_len v
  split
  · omega
  · rw [List.length_cons, List.length_append]; simp only [List.length_cons, List.length_nil]; omega

theorem repl6_any (s : ByteArray) (o : UInt8) (new : ByteArray) (w : World) (hG : G5 w) (hs : s.size ≤ 4000000000) (hn : new.size = 2) (hne : ([o] == new.data.toList) = false) :
    Calls Tryd.prog 103 #[.string s, .string ⟨#[o]⟩, .string new] w fun e w' => e = .returned (.string (ba (s.data.toList.flatMap (repC o new.data.toList)))) ∧ Below w.heap.size w w' := by
  obtain ⟨m, hm⟩ := hG
  have h := Tryd.strings_ReplaceAll s ⟨#[o]⟩ new m w (by omega) hm (show 1 ≤ 1 from Nat.le_refl _) (by have := countB6 s o; rw [hn]; omega)
  rw [show (⟨#[o]⟩ : ByteArray).data.toList = [o] from rfl, rep_all o _ _ hne] at h
  exact h

set_option maxHeartbeats 1000000 in
theorem written_any (s : ByteArray) (w : World) (hG : G5 w) (hs : s.size ≤ 1000000000) :
    Calls Tryd.prog 77 #[.string s] w fun e w' => e = .returned (.string (ba (wrtV s.data.toList))) ∧ Below w.heap.size w w' := by
  obtain ⟨t, ht⟩ : ∃ t, tokL s.data.toList = t := ⟨_, rfl⟩
  have HT : Hid (∀ w : World, Calls Tryd.prog 46 #[.string s] w fun e w' => e = .returned (.bool t) ∧ w = w') := fun w => by
    rw [← ht]; exact token_any s w (by omega)
  have HG := hid hG
  clear hG
  cases t with
  | true =>
    have HV := hid (show ba (wrtV s.data.toList) = s by rw [wrtV, if_pos ht]; exact mba_self s)
    clear ht
    go_enter Tryd.func77, Tryd.ntmps77
    go_wp2_with (go_at_call 46; refine (HT.out _).mono ?_; rintro e w' ⟨rfl, rfl⟩)
    go_ret
    rw [HV.out]
    exact ⟨rfl, Below.refl _ _⟩
  | false =>
    obtain ⟨A, hA⟩ : ∃ A, ba (s.data.toList.flatMap (repC 92 [92, 92])) = A := ⟨_, rfl⟩
    have hAl : A.data.toList = s.data.toList.flatMap (repC 92 [92, 92]) := by rw [← hA]; rfl
    have hAs : A.size ≤ 4000000000 := by have := rep_len 92 [92, 92] rfl s.data.toList; rw [← Lib.size_eq] at this; rw [Lib.size_eq, hAl]; omega
    obtain ⟨C, hC⟩ : ∃ C, ba (A.data.toList.flatMap (repC 34 [92, 34])) = C := ⟨_, rfl⟩
    have hCl : C.data.toList = s.data.toList.flatMap escC := by rw [← hC, hAl]; exact esc_two _
    have hCs : C.size ≤ 4000000000 := by have := esc_len s.data.toList; rw [← Lib.size_eq] at this; rw [Lib.size_eq, hCl]; omega
    have HV := hid (show ba (wrtV s.data.toList) = (⟨#[34]⟩ : ByteArray) ++ C ++ (⟨#[34]⟩ : ByteArray) by
      rw [wrtV, ht, if_neg (by simp), ← hCl]
      exact xba (by simp [ba]))
    have HR1 : Hid (∀ w, G5 w → Calls Tryd.prog 103 #[.string s, .string ⟨#[92]⟩, .string ⟨#[92, 92]⟩] w fun e w' => e = .returned (.string A) ∧ Below w.heap.size w w') := fun w hg => by
      rw [← hA]; exact repl6_any s 92 ⟨#[92, 92]⟩ w hg (by omega) rfl rfl
    have HR2 : Hid (∀ w, G5 w → Calls Tryd.prog 103 #[.string A, .string ⟨#[34]⟩, .string ⟨#[92, 34]⟩] w fun e w' => e = .returned (.string C) ∧ Below w.heap.size w w') := fun w hg => by
      rw [← hC]; exact repl6_any A 34 ⟨#[92, 34]⟩ w hg hAs rfl rfl
    clear ht hA hAl hC hCl
    go_enter Tryd.func77, Tryd.ntmps77
    go_wp2_with fail
    refine (HT.out _).mono ?_
    rintro e w' ⟨rfl, rfl⟩
    go_wp2_with fail
    refine (HR1.out _ HG.out).mono ?_
    rintro e w1 ⟨rfl, hb1⟩
    go_wp2_with fail
    refine (HR2.out _ (HG.out.kept hb1)).mono ?_
    rintro e w2 ⟨rfl, hb2⟩
    go_wp2
    go_ret
    rw [HV.out]
    exact ⟨rfl, belowT hb1 hb2⟩

set_option maxHeartbeats 1000000 in
theorem essence_any (a m : ByteArray) (v : Value) (w : World) (ha : a.size ≤ 4000000000) (hm : m.size ≤ 4000000000) (hv : ∃ x n c, v = .slice x n c) :
    Calls Tryd.prog 48 #[knVal a m v] w fun e w' => e = .returned (.string (ba (a.data.toList ++ 47 :: m.data.toList))) ∧ Below w.heap.size w w' := by
  have HV := hid (show ba (a.data.toList ++ 47 :: m.data.toList) = a ++ (⟨#[47]⟩ : ByteArray) ++ m from xba (by simp [ba]))
  have HB := hid (show Below w.heap.size w (w.alloc (.cells #[.string a, .string m, v] 53)) from (Below.refl _ w).alloc (Nat.le_refl _) _)
  unfold knVal
  obtain ⟨x, n, c, rfl⟩ := hv
  go_enter Tryd.func48, Tryd.ntmps48
  go_wp2
  go_ret
  rw [HV.out]
  exact ⟨rfl, HB.out⟩

end Go.Proofs.YtplabofdcnpcpaaDoor
