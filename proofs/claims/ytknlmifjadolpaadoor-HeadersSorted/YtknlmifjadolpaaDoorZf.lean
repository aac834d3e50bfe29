/-
  The walks of the document's own answers: ostiaryref1's ends, Trim; ostiaryref5's Value, fits.
-/
import Derived.Test.YtknlmifjadolpaaDoorZd
set_option linter.unusedSimpArgs false
set_option linter.unusedVariables false
namespace Go.Proofs.YtknlmifjadolpaaDoor
open Go.RowKit

def endI (c : Int) : Bool := c == 9 || (c == 32 || (c == 10 || c == 13))
def endT (c : Int) : Bool := c == 9 || c == 32
def endC (t : Bool) (c : UInt8) : Bool := if t then endT c.toNat else endI c.toNat

set_option maxHeartbeats 400000 in
theorem ends_false (c : Int) (w : World) :
    Calls Tryd.prog 119 #[.int .u8 c, .bool false] w fun e w' => e = .returned (.bool (endI c)) ∧ w = w' := by
  go_enter Tryd.func119, Tryd.ntmps119
  go_wp2
  all_goals
    go_ret
    exact ⟨ret_bool (by simp [endI, *, Bool.or_assoc]), rfl⟩

theorem dropWhile_left (p : UInt8 → Bool) (A X : List UInt8) (h : A.all p = true) : (A ++ X).dropWhile p = X.dropWhile p := by
  induction A with
  | nil => rfl
  | cons a A ih =>
    simp only [List.all_cons, Bool.and_eq_true] at h
    rw [List.cons_append, List.dropWhile_cons_of_pos h.1, ih h.2]

theorem dropWhile_stop5 (p : UInt8 → Bool) (X Y : List UInt8) (c : UInt8) (hc : p c = false) : (X ++ c :: Y).dropWhile p = X.dropWhile p ++ c :: Y := by
  induction X with
  | nil => rw [List.nil_append, List.dropWhile_cons_of_neg (by simp [hc])]; rfl
  | cons x X ih =>
    cases hx : p x with
    | true => rw [List.cons_append, List.dropWhile_cons_of_pos hx, List.dropWhile_cons_of_pos hx, ih]
    | false => rw [List.cons_append, List.dropWhile_cons_of_neg (by simp [hx]), List.dropWhile_cons_of_neg (by simp [hx])]; rfl

theorem all_split (p : UInt8 → Bool) : ∀ l : List UInt8, ¬ l.all p = true → ∃ A c r, A.all p = true ∧ p c = false ∧ l = A ++ c :: r
  | [], h => absurd rfl h
  | x :: l, h => by
    cases hx : p x with
    | false => exact ⟨[], x, l, rfl, hx, rfl⟩
    | true =>
      obtain ⟨A, c, r, h1, h2, h3⟩ := all_split p l (fun e => h (by rw [List.all_cons, hx, e]; rfl))
      exact ⟨x :: A, c, r, by rw [List.all_cons, hx, h1]; rfl, h2, by rw [h3]; rfl⟩

/-- Which end is stripped first does not matter. -/
theorem trim_comm (p : UInt8 → Bool) (l : List UInt8) : ((l.dropWhile p).reverse.dropWhile p).reverse = (l.reverse.dropWhile p).reverse.dropWhile p := by
  by_cases h : l.all p = true
  · have h1 : l.dropWhile p = [] := by
      have := dropWhile_left p l [] h
      simpa using this
    have h2 : l.reverse.dropWhile p = [] := by
      have := dropWhile_left p l.reverse [] (by simpa using h)
      simpa using this
    rw [h1, h2]; rfl
  · obtain ⟨A, c, r, hA, hc, rfl⟩ := all_split p l h
    rw [dropWhile_left p A _ hA, List.dropWhile_cons_of_neg (by simp [hc])]
    rw [List.reverse_cons, List.reverse_append, List.reverse_cons, List.append_assoc, List.singleton_append]
    rw [dropWhile_stop5 p _ _ c hc, dropWhile_stop5 p _ _ c hc]
    rw [List.reverse_append, List.reverse_append, List.reverse_cons, List.reverse_cons, List.reverse_reverse]
    simp only [List.reverse_nil, List.nil_append, List.append_assoc, List.singleton_append]
    rw [dropWhile_left p A _ hA, List.dropWhile_cons_of_neg (by simp [hc])]

def pE (c : UInt8) : Bool := endI c.toNat

theorem pE_contains (c : UInt8) : [(9 : UInt8), 10, 13, 32].contains c = pE c := by
  rw [Bool.eq_iff_iff]
  simp only [List.contains_eq_mem, List.mem_cons, List.not_mem_nil, or_false, decide_eq_true_eq, pE, endI, Bool.or_eq_true, beq_iff_eq]
  have e : ∀ n : Nat, n < 256 → ((c.toNat : Int) = (n : Int) ↔ c = UInt8.ofNat n) := fun n hn => by
    have := byteInt c n hn
    rw [Bool.eq_iff_iff] at this
    simpa using this
  have e9 : (c.toNat : Int) = 9 ↔ c = 9 := e 9 (by omega)
  have e10 : (c.toNat : Int) = 10 ↔ c = 10 := e 10 (by omega)
  have e13 : (c.toNat : Int) = 13 ↔ c = 13 := e 13 (by omega)
  have e32 : (c.toNat : Int) = 32 ↔ c = 32 := e 32 (by omega)
  constructor
  · rintro (h | h | h | h) <;> (subst h; decide)
  · rintro (h | h | h | h)
    · exact .inl (e9.1 h)
    · exact .inr (.inr (.inr (e32.1 h)))
    · exact .inr (.inl (e10.1 h))
    · exact .inr (.inr (.inl (e13.1 h)))

theorem valT_strip (l : List UInt8) : valT l = ((l.dropWhile pE).reverse.dropWhile pE).reverse := by
  rw [trim_comm]
  unfold valT Lib.trimS Lib.trimLeftS Lib.trimRightS
  have : (fun c => [(9 : UInt8), 10, 13, 32].contains c) = pE := funext pE_contains
  rw [this]

theorem ext_from1 (S : ByteArray) (h : 0 < S.size) : S.data.toList = S[0] :: (S.extract 1 S.size).data.toList := by
  have := drop_cons S 0 h
  rw [List.drop_zero] at this
  rw [this, extract_drop]

theorem ext_to1 (S : ByteArray) (h : 0 < S.size) : S.data.toList = (S.extract 0 (S.size - 1)).data.toList ++ [S[S.size - 1]'(by omega)] := by
  have h2 : S.data.toList.drop (S.size - 1) = [S[S.size - 1]'(by omega)] := by
    have h3 := drop_cons S (S.size - 1) (by omega)
    have h4 : S.data.toList.drop (S.size - 1 + 1) = [] := List.drop_eq_nil_of_le (by simp; omega)
    rw [h4] at h3
    exact h3
  rw [Lib.extract_data, List.drop_zero, Nat.sub_zero, ← h2, List.take_append_drop]

set_option maxHeartbeats 2000000 in
theorem rtrim_any (s : ByteArray) (w : World) (hs : s.size ≤ 9223372036854775807) :
    Calls Tryd.prog 102 #[.string s, .bool false] w fun e w' => e = .returned (.string ⟨(valT s.data.toList).toArray⟩) ∧ w = w' := by
  have HV := hid (valT_strip s.data.toList)
  go_enter Tryd.func102, Tryd.ntmps102
  go_wp2
  go_loop [0] (fun v => ∃ S : ByteArray, v = .string S ∧ S.size ≤ 9223372036854775807 ∧ S.data.toList.dropWhile pE = s.data.toList.dropWhile pE) (fun v => match v with | .string S => S.size | _ => 0)
  case atStart => exact ⟨s, rfl, hs, rfl⟩
  case round =>
    obtain ⟨S, rfl, hS, hd⟩ := hrel
    have HD := hid hd
    clear hd
    by_cases h0 : 0 < S.size
    · have h0' : (0 : Int) < (S.size : Int) := by omega
      have hx := ext_from1 S h0
      by_cases hp : endI (S[0].toNat : Int) = true
      · have h1 : (1 : Int) ≤ (S.size : Int) := by omega
        have HN := hid (show (S.extract 1 S.size).data.toList.dropWhile pE = s.data.toList.dropWhile pE by
          rw [← HD.out, hx, List.dropWhile_cons_of_pos (show pE S[0] = true from hp)])
        clear hx
        go_wp2_with (go_at_call 119; refine (ends_false _ _).mono ?_; rintro e w' ⟨rfl, rfl⟩)
        go_round
        case rel => exact ⟨S.extract 1 S.size, rfl, by simp; omega, HN.out⟩
        case measure => simp; omega
      · have hp' : endI (S[0].toNat : Int) = false := by simpa using hp
        have HN := hid (show S.data.toList = s.data.toList.dropWhile pE by
          rw [← HD.out, hx, List.dropWhile_cons_of_neg (show ¬ pE S[0] = true from hp), ← hx])
        clear hx hp
        have hSS : ∀ T : ByteArray, T.data.toList.reverse.dropWhile pE = S.data.toList.reverse.dropWhile pE → (T.data.toList = [] ∨ ∃ A c, T.data.toList = A ++ [c] ∧ pE c = false) → T = ⟨(valT s.data.toList).toArray⟩ := fun T h1 h2 => by
          refine xext ?_
          rw [HV.out, ← HN.out, ← h1]
          rcases h2 with h2 | ⟨A, c, h2, hc⟩
          · rw [h2]; rfl
          · rw [h2, List.reverse_append, List.reverse_cons, List.reverse_nil, List.nil_append, List.singleton_append, List.dropWhile_cons_of_neg (by simp [hc]), List.reverse_cons, List.reverse_reverse]
        have HSS := hid hSS
        clear hSS
        go_wp2_with (go_at_call 119; refine (ends_false _ _).mono ?_; rintro e w' ⟨rfl, rfl⟩)
        go_loop [0] (fun v => ∃ T : ByteArray, v = .string T ∧ T.size ≤ 9223372036854775807 ∧ T.data.toList.reverse.dropWhile pE = S.data.toList.reverse.dropWhile pE) (fun v => match v with | .string T => T.size | _ => 0)
        case atStart => exact ⟨S, rfl, hS, rfl⟩
        case round =>
          obtain ⟨T, rfl, hT, hd⟩ := hrel
          have HD2 := hid hd
          clear hd
          by_cases t0 : 0 < T.size
          · have t0' : (0 : Int) < (T.size : Int) := by omega
            have ht1 : (T.size : Int) - 1 < (T.size : Int) := by omega
            have ht2 : (0 : Int) ≤ (T.size : Int) - 1 := by omega
            have ht3 : ((T.size : Int) - 1).toNat = T.size - 1 := by omega
            have ht4 : (T.size : Int) - 1 ≤ (T.size : Int) := by omega
            have hx := ext_to1 T t0
            by_cases hp : endI ((T[T.size - 1]'(by omega)).toNat : Int) = true
            · have HN2 := hid (show (T.extract 0 (T.size - 1)).data.toList.reverse.dropWhile pE = S.data.toList.reverse.dropWhile pE by
                rw [← HD2.out]
                conv => rhs; rw [hx, List.reverse_append, List.reverse_cons, List.reverse_nil, List.nil_append, List.singleton_append, List.dropWhile_cons_of_pos (show pE (T[T.size - 1]'(by omega)) = true from hp)])
              clear hx
              go_wp2_with (go_at_call 119; refine (ends_false _ _).mono ?_; rintro e w' ⟨rfl, rfl⟩)
              go_round
              case rel => exact ⟨T.extract 0 (T.size - 1), rfl, by simp; omega, HN2.out⟩
              case measure => simp; omega
            · have hp' : endI ((T[T.size - 1]'(by omega)).toNat : Int) = false := by simpa using hp
              have HF := hid (HSS.out T HD2.out (.inr ⟨_, _, hx, hp'⟩))
              clear hx hp
              go_wp2_with (go_at_call 119; refine (ends_false _ _).mono ?_; rintro e w' ⟨rfl, rfl⟩)
              go_ret
              rw [← HF.out]
              exact ⟨rfl, rfl⟩
          · have t0' : decide ((0 : Int) < (T.size : Int)) = false := by rw [decide_eq_false_iff_not]; omega
            have HF := hid (HSS.out T HD2.out (.inl (List.eq_nil_of_length_eq_zero (by have := Lib.size_eq T; omega))))
            go_wp2
            go_ret
            rw [← HF.out]
            exact ⟨rfl, rfl⟩
    · have h0' : decide ((0 : Int) < (S.size : Int)) = false := by rw [decide_eq_false_iff_not]; omega
      have hSn : S.data.toList = [] := List.eq_nil_of_length_eq_zero (by have := Lib.size_eq S; omega)
      have HN := hid (show S.data.toList = s.data.toList.dropWhile pE by rw [← HD.out, hSn]; rfl)
      clear hSn
      have hSS : ∀ T : ByteArray, T.data.toList.reverse.dropWhile pE = S.data.toList.reverse.dropWhile pE → (T.data.toList = [] ∨ ∃ A c, T.data.toList = A ++ [c] ∧ pE c = false) → T = ⟨(valT s.data.toList).toArray⟩ := fun T h1 h2 => by
        refine xext ?_
        rw [HV.out, ← HN.out, ← h1]
        rcases h2 with h2 | ⟨A, c, h2, hc⟩
        · rw [h2]; rfl
        · rw [h2, List.reverse_append, List.reverse_cons, List.reverse_nil, List.nil_append, List.singleton_append, List.dropWhile_cons_of_neg (by simp [hc]), List.reverse_cons, List.reverse_reverse]
      have HSS := hid hSS
      clear hSS
      go_wp2
      go_loop [0] (fun v => ∃ T : ByteArray, v = .string T ∧ T.size ≤ 9223372036854775807 ∧ T.data.toList.reverse.dropWhile pE = S.data.toList.reverse.dropWhile pE) (fun v => match v with | .string T => T.size | _ => 0)
      case atStart => exact ⟨S, rfl, hS, rfl⟩
      case round =>
        obtain ⟨T, rfl, hT, hd⟩ := hrel
        have HD2 := hid hd
        clear hd
        by_cases t0 : 0 < T.size
        · have t0' : (0 : Int) < (T.size : Int) := by omega
          have ht1 : (T.size : Int) - 1 < (T.size : Int) := by omega
          have ht2 : (0 : Int) ≤ (T.size : Int) - 1 := by omega
          have ht3 : ((T.size : Int) - 1).toNat = T.size - 1 := by omega
          have ht4 : (T.size : Int) - 1 ≤ (T.size : Int) := by omega
          have hx := ext_to1 T t0
          by_cases hp : endI ((T[T.size - 1]'(by omega)).toNat : Int) = true
          · have HN2 := hid (show (T.extract 0 (T.size - 1)).data.toList.reverse.dropWhile pE = S.data.toList.reverse.dropWhile pE by
              rw [← HD2.out]
              conv => rhs; rw [hx, List.reverse_append, List.reverse_cons, List.reverse_nil, List.nil_append, List.singleton_append, List.dropWhile_cons_of_pos (show pE (T[T.size - 1]'(by omega)) = true from hp)])
            clear hx
            go_wp2_with (go_at_call 119; refine (ends_false _ _).mono ?_; rintro e w' ⟨rfl, rfl⟩)
            go_round
            case rel => exact ⟨T.extract 0 (T.size - 1), rfl, by simp; omega, HN2.out⟩
            case measure => simp; omega
          · have hp' : endI ((T[T.size - 1]'(by omega)).toNat : Int) = false := by simpa using hp
            have HF := hid (HSS.out T HD2.out (.inr ⟨_, _, hx, hp'⟩))
            clear hx hp
            go_wp2_with (go_at_call 119; refine (ends_false _ _).mono ?_; rintro e w' ⟨rfl, rfl⟩)
            go_ret
            rw [← HF.out]
            exact ⟨rfl, rfl⟩
        · have t0' : decide ((0 : Int) < (T.size : Int)) = false := by rw [decide_eq_false_iff_not]; omega
          have HF := hid (HSS.out T HD2.out (.inl (List.eq_nil_of_length_eq_zero (by have := Lib.size_eq T; omega))))
          go_wp2
          go_ret
          rw [← HF.out]
          exact ⟨rfl, rfl⟩

end Go.Proofs.YtknlmifjadolpaaDoor
