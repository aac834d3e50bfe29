/-
  The walk of the law InfraTokens.
-/
import Derived.Test.YthmhljnfjjblcaaWk
import Derived.Test.YthmhljnfjjblcaaWi
import Derived.Test.YthmhljnfjjblcaaWj
import Derived.Test.YthmhljnfjjblcaaKc
set_option linter.unusedSimpArgs false
set_option linter.unusedVariables false
namespace Go.Proofs.Ythmhljnfjjblcaa
open Go.RowKit

theorem few_300 (s : ByteArray) (w : World) (hs : s.size ≤ maxLen) :
    Calls Try.prog 39 #[.string s, .int .i64 300] w fun e w' => ∃ t : ByteArray, t.size ≤ 300 ∧ e = .returned (.string t) ∧ w = w' := by
  unfold maxLen at hs
  by_cases h : 300 < s.size
  · have h' : (300 : Int) < (s.size : Int) := by omega
    go_enter Try.func39, Try.ntmps39
    go_wp2
    go_ret
    exact ⟨_, by simp; omega, rfl, rfl⟩
  · have h' : (s.size : Int) ≤ 300 := by omega
    go_enter Try.func39, Try.ntmps39
    go_wp2
    go_ret
    exact ⟨s, by omega, rfl, rfl⟩

theorem isEmpty_app (x y : List UInt8) : (x ++ y).isEmpty = (x.isEmpty && y.isEmpty) := by cases x <;> simp

theorem size_sp : (⟨#[32]⟩ : ByteArray).size = 1 := rfl
theorem size_sn : (⟨#[32, 10]⟩ : ByteArray).size = 2 := rfl
theorem size_ts : (⟨#[9, 32]⟩ : ByteArray).size = 2 := rfl

theorem tokL_append (x y : List UInt8) : tokL (x ++ y) = ((tokL x || x.isEmpty) && (tokL y || y.isEmpty) && !(x ++ y).isEmpty) := by
  cases x <;> cases y <;> simp [tokL, Bool.and_assoc]

theorem tokL_blank (x y : List UInt8) : tokL (x ++ 32 :: y) = false := by
  have : tokC 32 = false := by decide
  simp [tokL, this]

theorem low_low (l : List UInt8) : low (low l) = low l := by
  unfold low
  rw [List.map_map]
  apply List.map_congr_left
  intro c _
  show lowC (lowC c) = lowC c
  by_cases h : 65 ≤ c.toNat ∧ c.toNat ≤ 90
  · refine lowC_no _ ?_
    have := lowC_yes c h
    omega
  · rw [lowC_no c h, lowC_no c h]

theorem low_append (x y : List UInt8) : low (x ++ y) = low x ++ low y := by simp [low]

theorem dropWhile_head (X : List UInt8) : X.dropWhile blC = [] ∨ ∃ c r, X.dropWhile blC = c :: r ∧ blC c = false := by
  induction X with
  | nil => exact .inl rfl
  | cons a X ih =>
    by_cases h : blC a = true
    · simp only [List.dropWhile_cons, h, if_true]; exact ih
    · right
      have h' : blC a = false := by simpa using h
      exact ⟨a, X, by simp [List.dropWhile_cons, h'], h'⟩

theorem strip_form (l : List UInt8) : ∃ A B, l = A ++ strip l ++ B ∧ A.all blC = true ∧ B.all blC = true ∧ (strip l = [] ∨ (∃ c r, strip l = c :: r ∧ blC c = false) ∧ ∃ r c, strip l = r ++ [c] ∧ blC c = false) := by
  refine ⟨l.takeWhile blC, ((l.dropWhile blC).reverse.takeWhile blC).reverse, ?_, ?_, ?_, ?_⟩
  · have h1 : l = l.takeWhile blC ++ l.dropWhile blC := List.takeWhile_append_dropWhile.symm
    have h2 : (l.dropWhile blC).reverse = (l.dropWhile blC).reverse.takeWhile blC ++ (l.dropWhile blC).reverse.dropWhile blC := List.takeWhile_append_dropWhile.symm
    have h3 : l.dropWhile blC = ((l.dropWhile blC).reverse.dropWhile blC).reverse ++ ((l.dropWhile blC).reverse.takeWhile blC).reverse := by
      have := congrArg List.reverse h2
      rwa [List.reverse_reverse, List.reverse_append] at this
    rw [List.append_assoc]
    unfold strip
    rw [← h3]
    exact h1
  · exact List.all_takeWhile
  · rw [List.all_reverse]; exact List.all_takeWhile
  · by_cases h : strip l = []
    · exact .inl h
    · right
      have h1 : l.dropWhile blC = strip l ++ ((l.dropWhile blC).reverse.takeWhile blC).reverse := by
        have h2 : (l.dropWhile blC).reverse = (l.dropWhile blC).reverse.takeWhile blC ++ (l.dropWhile blC).reverse.dropWhile blC := List.takeWhile_append_dropWhile.symm
        have := congrArg List.reverse h2
        rwa [List.reverse_reverse, List.reverse_append] at this
      constructor
      · rcases dropWhile_head l with e | ⟨c, r, e, hc⟩
        · rw [e] at h1
          exact absurd (List.append_eq_nil_iff.1 h1.symm).1 h
        · match hs : strip l, h with
          | a :: t, _ =>
            rw [hs, e] at h1
            have : c = a := by simpa using congrArg List.head? h1
            exact ⟨a, t, rfl, this ▸ hc⟩
      · rcases dropWhile_head (l.dropWhile blC).reverse with e | ⟨c, r, e, hc⟩
        · exact absurd (by unfold strip; rw [e]; rfl) h
        · exact ⟨r.reverse, c, by unfold strip; rw [e]; simp, hc⟩

theorem strip_strip (l : List UInt8) : strip (strip l) = strip l := by
  obtain ⟨A, B, _, _, _, h⟩ := strip_form l
  have := strip_parts [] (strip l) [] rfl rfl h
  simpa using this

theorem strip_around (l A B : List UInt8) (hA : A.all blC = true) (hB : B.all blC = true) : strip (A ++ l ++ B) = strip l := by
  obtain ⟨A', B', e, hA', hB', h⟩ := strip_form l
  conv => lhs; rw [e]
  have := strip_parts (A ++ A') (strip l) (B' ++ B) (by simp [hA, hA']) (by simp [hB, hB']) h
  simpa using this

theorem strip_le (l : List UInt8) : (strip l).length ≤ l.length := by
  obtain ⟨A, B, e, _⟩ := strip_form l
  have := congrArg List.length e
  simp at this
  omega

set_option maxHeartbeats 4000000 in
theorem infraTokens_walk (a0 b0 : ByteArray) (w : World) (ha0 : a0.size ≤ maxLen) (hb0 : b0.size ≤ maxLen) :
    Calls Try.prog 10 #[.string a0, .string b0] w fun e w' => e = .returned (.bool true) ∧ Below w.heap.size w w' := by
  go_enter Try.func10, Try.ntmps10
  go_wp2_with fail
  refine (few_300 a0 w ha0).mono ?_
  rintro e w1 ⟨a, ha, rfl, rfl⟩
  go_wp2_with fail
  refine (few_300 b0 w hb0).mono ?_
  rintro e w1 ⟨b, hb, rfl, rfl⟩
  obtain ⟨ta, hta⟩ : ∃ t, tokL a.data.toList = t := ⟨_, rfl⟩
  obtain ⟨tb, htb⟩ : ∃ t, tokL b.data.toList = t := ⟨_, rfl⟩
  obtain ⟨ea, hea⟩ : ∃ t, a.toList.isEmpty = t := ⟨_, rfl⟩
  obtain ⟨eb, heb⟩ : ∃ t, b.toList.isEmpty = t := ⟨_, rfl⟩
  have hea2 : a.data.toList.isEmpty = ea := by rw [← hea, Lib.toList_data]
  have heb2 : b.data.toList.isEmpty = eb := by rw [← heb, Lib.toList_data]
  have hab : tokL (a.data.toList ++ b.data.toList) = ((ta || ea) && (tb || eb) && !(ea && eb)) := by
    rw [tokL_append, hta, htb, isEmpty_app, hea2, heb2]
  have hne : (a ++ b).toList.isEmpty = (ea && eb) := by
    rw [Lib.toList_data, ByteArray.data_append, Array.toList_append, isEmpty_app, hea2, heb2]
  have hbl := tokL_blank a.data.toList b.data.toList
  have hno : ta = true → ea = false := by
    intro h
    rw [← hea2]
    rw [h] at hta
    simp [tokL] at hta
    simpa using hta.2
  clear hea2 heb2
  have hcat : ((⟨(low a.data.toList).toArray⟩ : ByteArray) ++ ⟨(low b.data.toList).toArray⟩).toList = low a.data.toList ++ low b.data.toList := by rw [Lib.toList_data]; simp
  have hsl := strip_le a.data.toList
  have hal : a.data.toList.length ≤ 300 := by simpa using ha
  have hlen : (low a.data.toList).length = a.size := by simp [low]
  have hlenb : (low b.data.toList).length = b.size := by simp [low]
  have hsa : (ByteArray.mk (low a.data.toList).toArray).size = a.size := by show (low a.data.toList).toArray.size = _; simp [low]
  have hsb : (ByteArray.mk (low b.data.toList).toArray).size = b.size := by show (low b.data.toList).toArray.size = _; simp [low]
  cases ta <;> cases ea <;> cases tb <;> cases eb
  all_goals (try (exact absurd (hno rfl) (by decide)))
  all_goals clear hno
  all_goals simp only [Bool.and_true, Bool.true_and, Bool.or_true, Bool.true_or, Bool.or_false, Bool.false_or, Bool.and_false, Bool.false_and, Bool.not_true, Bool.not_false] at hab hne
  all_goals
    go_wp2_with (go_at_call 25; refine (token_any _ _ ?_).mono ?_; (first | omega | (simp [size_sp]; omega)); rintro e w1 ⟨rfl, rfl⟩)
    go_wp2_with fail
    refine (strip_any a w (by omega)).mono ?_
    rintro e w1 ⟨rfl, rfl⟩
    go_wp2_with fail
    refine (lower_any a w (by omega)).mono ?_
    rintro e w2 ⟨rfl, hb2⟩
    go_wp2_with fail
    refine (strip_at _ w2 (strip a.data.toList) (by show (strip a.data.toList).toArray.size ≤ _; simp; omega) (strip_strip _)).mono ?_
    rintro e w1 ⟨rfl, rfl⟩
    go_wp2_with fail
    refine (lower_at _ w2 (low a.data.toList) (by show (low a.data.toList).toArray.size ≤ _; simp [low]; omega) (low_low _)).mono ?_
    rintro e w3 ⟨rfl, hb3⟩
    go_wp2_with fail
    refine (strip_at _ w3 (strip a.data.toList) ?_ ?_).mono ?_
    · simp [size_sn, size_ts]; omega
    · have := strip_around a.data.toList [32, 10] [9, 32] (by decide) (by decide)
      simpa using this
    rintro e w1 ⟨rfl, rfl⟩
    go_wp2_with fail
    refine (lower_at _ w3 (low a.data.toList ++ low b.data.toList) ?_ ?_).mono ?_
    · simp; omega
    · have := low_append a.data.toList b.data.toList
      simpa using this
    rintro e w4 ⟨rfl, hb4⟩
    go_wp2_with fail
    refine (lower_at _ w4 (low b.data.toList) (by omega) rfl).mono ?_
    rintro e w5 ⟨rfl, hb5⟩
    go_wp2_with fail
    refine (known_any w5).mono ?_
    rintro e w6 ⟨rfl, hb6⟩
    go_wp2
    go_ret
    exact ⟨rfl, below5 hb2 hb3 hb4 hb5 hb6⟩

end Go.Proofs.Ythmhljnfjjblcaa
