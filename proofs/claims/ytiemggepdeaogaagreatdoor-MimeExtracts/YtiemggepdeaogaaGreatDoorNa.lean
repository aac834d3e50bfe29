/-
  The walks of the document's own answers of chapter 1 that chapter 6 calls: ostiaryref1's ends, Trim, Begins, Ends, Part, Has.
-/
import Derived.Test.YtiemggepdeaogaaGreatDoorMv
import Derived.Test.YtiemggepdeaogaaGreatDoorRa
import Derived.LoopN
import Derived.RegionTactic
import Derived.BigRegion
set_option linter.unusedSimpArgs false
set_option linter.unusedVariables false
namespace Go.Proofs.YtiemggepdeaogaaGreatDoor
open Go.RowKit

theorem ret_ssb6 {a b c d : ByteArray} {x y : Bool} (h : a = b) (g : c = d) (k : x = y) : Ending.returned (.tuple #[.string a, .string c, .bool x]) = .returned (.tuple #[.string b, .string d, .bool y]) := by rw [h, g, k]

def endI (c : Int) : Bool := c == 9 || (c == 32 || (c == 10 || c == 13))
def endT (c : Int) : Bool := c == 9 || c == 32
def endC (t : Bool) (c : UInt8) : Bool := if t then endT c.toNat else endI c.toNat

set_option maxHeartbeats 400000 in
theorem ends_false (c : Int) (w : World) :
    Calls Tryz.prog 65 #[.int .u8 c, .bool false] w fun e w' => e = .returned (.bool (endI c)) ∧ w = w' := by
  go_enter Tryz.func65, Tryz.ntmps65
  go_wp2
  all_goals
    go_ret
    exact ⟨ret_bool (by simp [endI, *, Bool.or_assoc]), rfl⟩

theorem dropWhile_left (p : UInt8 → Bool) (A X : List UInt8) (h : A.all p = true) : (A ++ X).dropWhile p = X.dropWhile p := by
  induction A with
  | nil => rfl
  | cons a A ih =>
    simp only [List.all_cons, Bool.and_eq_true] at h
    rw [List.cons_append, List.dropWhile_cons_of_pos h.1, ih h.2]

theorem dropWhile_stop5 (p : UInt8 → Bool) (X Y : List UInt8) (c : UInt8) (hc : p c = false) : (X ++ c :: Y).dropWhile p = X.dropWhile p ++ c :: Y := by
  induction X with
  | nil => rw [List.nil_append, List.dropWhile_cons_of_neg (by simp [hc])]; rfl
  | cons x X ih =>
    cases hx : p x with
    | true => rw [List.cons_append, List.dropWhile_cons_of_pos hx, List.dropWhile_cons_of_pos hx, ih]
    | false => rw [List.cons_append, List.dropWhile_cons_of_neg (by simp [hx]), List.dropWhile_cons_of_neg (by simp [hx])]; rfl

theorem all_split (p : UInt8 → Bool) : ∀ l : List UInt8, ¬ l.all p = true → ∃ A c r, A.all p = true ∧ p c = false ∧ l = A ++ c :: r
  | [], h => absurd rfl h
  | x :: l, h => by
    cases hx : p x with
    | false => exact ⟨[], x, l, rfl, hx, rfl⟩
    | true =>
      obtain ⟨A, c, r, h1, h2, h3⟩ := all_split p l (fun e => h (by rw [List.all_cons, hx, e]; rfl))
      exact ⟨x :: A, c, r, by rw [List.all_cons, hx, h1]; rfl, h2, by rw [h3]; rfl⟩

/-- Which end is stripped first does not matter. -/
theorem trim_comm (p : UInt8 → Bool) (l : List UInt8) : ((l.dropWhile p).reverse.dropWhile p).reverse = (l.reverse.dropWhile p).reverse.dropWhile p := by
  by_cases h : l.all p = true
  · have h1 : l.dropWhile p = [] := by
      have := dropWhile_left p l [] h
      simpa using this
    have h2 : l.reverse.dropWhile p = [] := by
      have := dropWhile_left p l.reverse [] (by simpa using h)
      simpa using this
    rw [h1, h2]; rfl
  · obtain ⟨A, c, r, hA, hc, rfl⟩ := all_split p l h
    rw [dropWhile_left p A _ hA, List.dropWhile_cons_of_neg (by simp [hc])]
    rw [List.reverse_cons, List.reverse_append, List.reverse_cons, List.append_assoc, List.singleton_append]
    rw [dropWhile_stop5 p _ _ c hc, dropWhile_stop5 p _ _ c hc]
    rw [List.reverse_append, List.reverse_append, List.reverse_cons, List.reverse_cons, List.reverse_reverse]
    simp only [List.reverse_nil, List.nil_append, List.append_assoc, List.singleton_append]
    rw [dropWhile_left p A _ hA, List.dropWhile_cons_of_neg (by simp [hc])]

def pE (c : UInt8) : Bool := endI c.toNat

theorem pE_contains (c : UInt8) : [(9 : UInt8), 10, 13, 32].contains c = pE c := by
  rw [Bool.eq_iff_iff]
  simp only [List.contains_eq_mem, List.mem_cons, List.not_mem_nil, or_false, decide_eq_true_eq, pE, endI, Bool.or_eq_true, beq_iff_eq]
  have e : ∀ n : Nat, n < 256 → ((c.toNat : Int) = (n : Int) ↔ c = UInt8.ofNat n) := fun n hn => by
    have := byteInt c n hn
    rw [Bool.eq_iff_iff] at this
    simpa using this
  have e9 : (c.toNat : Int) = 9 ↔ c = 9 := e 9 (by omega)
  have e10 : (c.toNat : Int) = 10 ↔ c = 10 := e 10 (by omega)
  have e13 : (c.toNat : Int) = 13 ↔ c = 13 := e 13 (by omega)
  have e32 : (c.toNat : Int) = 32 ↔ c = 32 := e 32 (by omega)
  constructor
  · rintro (h | h | h | h) <;> (subst h; decide)
  · rintro (h | h | h | h)
    · exact .inl (e9.1 h)
    · exact .inr (.inr (.inr (e32.1 h)))
    · exact .inr (.inl (e10.1 h))
    · exact .inr (.inr (.inl (e13.1 h)))

theorem tB_strip (l : List UInt8) : tB l = ((l.dropWhile pE).reverse.dropWhile pE).reverse := by
  rw [trim_comm]
  unfold tB bl4 Lib.trimS Lib.trimLeftS Lib.trimRightS
  have : (fun c => [(9 : UInt8), 10, 13, 32].contains c) = pE := funext pE_contains
  rw [this]

theorem ext_from1 (S : ByteArray) (h : 0 < S.size) : S.data.toList = S[0] :: (S.extract 1 S.size).data.toList := by
  have := drop_cons S 0 h
  rw [List.drop_zero] at this
  rw [this, extract_drop]

theorem ext_to1 (S : ByteArray) (h : 0 < S.size) : S.data.toList = (S.extract 0 (S.size - 1)).data.toList ++ [S[S.size - 1]'(by omega)] := by
  have h2 : S.data.toList.drop (S.size - 1) = [S[S.size - 1]'(by omega)] := by
    have h3 := drop_cons S (S.size - 1) (by omega)
    have h4 : S.data.toList.drop (S.size - 1 + 1) = [] := List.drop_eq_nil_of_le (by simp; omega)
    rw [h4] at h3
    exact h3
  rw [Lib.extract_data, List.drop_zero, Nat.sub_zero, ← h2, List.take_append_drop]

set_option maxHeartbeats 2000000 in
theorem rtrim_any (s : ByteArray) (w : World) (hs : s.size ≤ 9223372036854775807) :
    Calls Tryz.prog 37 #[.string s, .bool false] w fun e w' => e = .returned (.string ⟨(tB s.data.toList).toArray⟩) ∧ w = w' := by
  have HV := hid (tB_strip s.data.toList)
  go_enter Tryz.func37, Tryz.ntmps37
  go_wp2
  go_loop [0] (fun v => ∃ S : ByteArray, v = .string S ∧ S.size ≤ 9223372036854775807 ∧ S.data.toList.dropWhile pE = s.data.toList.dropWhile pE) (fun v => match v with | .string S => S.size | _ => 0)
  case atStart => exact ⟨s, rfl, hs, rfl⟩
  case round =>
    obtain ⟨S, rfl, hS, hd⟩ := hrel
    have HD := hid hd
    clear hd
    by_cases h0 : 0 < S.size
    · have h0' : (0 : Int) < (S.size : Int) := by omega
      have hx := ext_from1 S h0
      by_cases hp : endI (S[0].toNat : Int) = true
      · have h1 : (1 : Int) ≤ (S.size : Int) := by omega
        have HN := hid (show (S.extract 1 S.size).data.toList.dropWhile pE = s.data.toList.dropWhile pE by
          rw [← HD.out, hx, List.dropWhile_cons_of_pos (show pE S[0] = true from hp)])
        clear hx
        go_wp2_with (go_at_call 65; refine (ends_false _ _).mono ?_; rintro e w' ⟨rfl, rfl⟩)
        go_round
        case rel => exact ⟨S.extract 1 S.size, rfl, by simp; omega, HN.out⟩
        case measure => simp; omega
      · have hp' : endI (S[0].toNat : Int) = false := by simpa using hp
        have HN := hid (show S.data.toList = s.data.toList.dropWhile pE by
          rw [← HD.out, hx, List.dropWhile_cons_of_neg (show ¬ pE S[0] = true from hp), ← hx])
        clear hx hp
        have hSS : ∀ T : ByteArray, T.data.toList.reverse.dropWhile pE = S.data.toList.reverse.dropWhile pE → (T.data.toList = [] ∨ ∃ A c, T.data.toList = A ++ [c] ∧ pE c = false) → T = ⟨(tB s.data.toList).toArray⟩ := fun T h1 h2 => by
          refine xext ?_
          rw [HV.out, ← HN.out, ← h1]
          rcases h2 with h2 | ⟨A, c, h2, hc⟩
          · rw [h2]; rfl
          · rw [h2, List.reverse_append, List.reverse_cons, List.reverse_nil, List.nil_append, List.singleton_append, List.dropWhile_cons_of_neg (by simp [hc]), List.reverse_cons, List.reverse_reverse]
        have HSS := hid hSS
        clear hSS
        go_wp2_with (go_at_call 65; refine (ends_false _ _).mono ?_; rintro e w' ⟨rfl, rfl⟩)
        go_loop [0] (fun v => ∃ T : ByteArray, v = .string T ∧ T.size ≤ 9223372036854775807 ∧ T.data.toList.reverse.dropWhile pE = S.data.toList.reverse.dropWhile pE) (fun v => match v with | .string T => T.size | _ => 0)
        case atStart => exact ⟨S, rfl, hS, rfl⟩
        case round =>
          obtain ⟨T, rfl, hT, hd⟩ := hrel
          have HD2 := hid hd
          clear hd
          by_cases t0 : 0 < T.size
          · have t0' : (0 : Int) < (T.size : Int) := by omega
            have ht1 : (T.size : Int) - 1 < (T.size : Int) := by omega
            have ht2 : (0 : Int) ≤ (T.size : Int) - 1 := by omega
            have ht3 : ((T.size : Int) - 1).toNat = T.size - 1 := by omega
            have ht4 : (T.size : Int) - 1 ≤ (T.size : Int) := by omega
            have hx := ext_to1 T t0
            by_cases hp : endI ((T[T.size - 1]'(by omega)).toNat : Int) = true
            · have HN2 := hid (show (T.extract 0 (T.size - 1)).data.toList.reverse.dropWhile pE = S.data.toList.reverse.dropWhile pE by
                rw [← HD2.out]
                conv => rhs; rw [hx, List.reverse_append, List.reverse_cons, List.reverse_nil, List.nil_append, List.singleton_append, List.dropWhile_cons_of_pos (show pE (T[T.size - 1]'(by omega)) = true from hp)])
              clear hx
              go_wp2_with (go_at_call 65; refine (ends_false _ _).mono ?_; rintro e w' ⟨rfl, rfl⟩)
              go_round
              case rel => exact ⟨T.extract 0 (T.size - 1), rfl, by simp; omega, HN2.out⟩
              case measure => simp; omega
            · have hp' : endI ((T[T.size - 1]'(by omega)).toNat : Int) = false := by simpa using hp
              have HF := hid (HSS.out T HD2.out (.inr ⟨_, _, hx, hp'⟩))
              clear hx hp
              go_wp2_with (go_at_call 65; refine (ends_false _ _).mono ?_; rintro e w' ⟨rfl, rfl⟩)
              go_ret
              rw [← HF.out]
              exact ⟨rfl, rfl⟩
          · have t0' : decide ((0 : Int) < (T.size : Int)) = false := by rw [decide_eq_false_iff_not]; omega
            have HF := hid (HSS.out T HD2.out (.inl (List.eq_nil_of_length_eq_zero (by have := Lib.size_eq T; omega))))
            go_wp2
            go_ret
            rw [← HF.out]
            exact ⟨rfl, rfl⟩
    · have h0' : decide ((0 : Int) < (S.size : Int)) = false := by rw [decide_eq_false_iff_not]; omega
      have hSn : S.data.toList = [] := List.eq_nil_of_length_eq_zero (by have := Lib.size_eq S; omega)
      have HN := hid (show S.data.toList = s.data.toList.dropWhile pE by rw [← HD.out, hSn]; rfl)
      clear hSn
      have hSS : ∀ T : ByteArray, T.data.toList.reverse.dropWhile pE = S.data.toList.reverse.dropWhile pE → (T.data.toList = [] ∨ ∃ A c, T.data.toList = A ++ [c] ∧ pE c = false) → T = ⟨(tB s.data.toList).toArray⟩ := fun T h1 h2 => by
        refine xext ?_
        rw [HV.out, ← HN.out, ← h1]
        rcases h2 with h2 | ⟨A, c, h2, hc⟩
        · rw [h2]; rfl
        · rw [h2, List.reverse_append, List.reverse_cons, List.reverse_nil, List.nil_append, List.singleton_append, List.dropWhile_cons_of_neg (by simp [hc]), List.reverse_cons, List.reverse_reverse]
      have HSS := hid hSS
      clear hSS
      go_wp2
      go_loop [0] (fun v => ∃ T : ByteArray, v = .string T ∧ T.size ≤ 9223372036854775807 ∧ T.data.toList.reverse.dropWhile pE = S.data.toList.reverse.dropWhile pE) (fun v => match v with | .string T => T.size | _ => 0)
      case atStart => exact ⟨S, rfl, hS, rfl⟩
      case round =>
        obtain ⟨T, rfl, hT, hd⟩ := hrel
        have HD2 := hid hd
        clear hd
        by_cases t0 : 0 < T.size
        · have t0' : (0 : Int) < (T.size : Int) := by omega
          have ht1 : (T.size : Int) - 1 < (T.size : Int) := by omega
          have ht2 : (0 : Int) ≤ (T.size : Int) - 1 := by omega
          have ht3 : ((T.size : Int) - 1).toNat = T.size - 1 := by omega
          have ht4 : (T.size : Int) - 1 ≤ (T.size : Int) := by omega
          have hx := ext_to1 T t0
          by_cases hp : endI ((T[T.size - 1]'(by omega)).toNat : Int) = true
          · have HN2 := hid (show (T.extract 0 (T.size - 1)).data.toList.reverse.dropWhile pE = S.data.toList.reverse.dropWhile pE by
              rw [← HD2.out]
              conv => rhs; rw [hx, List.reverse_append, List.reverse_cons, List.reverse_nil, List.nil_append, List.singleton_append, List.dropWhile_cons_of_pos (show pE (T[T.size - 1]'(by omega)) = true from hp)])
            clear hx
            go_wp2_with (go_at_call 65; refine (ends_false _ _).mono ?_; rintro e w' ⟨rfl, rfl⟩)
            go_round
            case rel => exact ⟨T.extract 0 (T.size - 1), rfl, by simp; omega, HN2.out⟩
            case measure => simp; omega
          · have hp' : endI ((T[T.size - 1]'(by omega)).toNat : Int) = false := by simpa using hp
            have HF := hid (HSS.out T HD2.out (.inr ⟨_, _, hx, hp'⟩))
            clear hx hp
            go_wp2_with (go_at_call 65; refine (ends_false _ _).mono ?_; rintro e w' ⟨rfl, rfl⟩)
            go_ret
            rw [← HF.out]
            exact ⟨rfl, rfl⟩
        · have t0' : decide ((0 : Int) < (T.size : Int)) = false := by rw [decide_eq_false_iff_not]; omega
          have HF := hid (HSS.out T HD2.out (.inl (List.eq_nil_of_length_eq_zero (by have := Lib.size_eq T; omega))))
          go_wp2
          go_ret
          rw [← HF.out]
          exact ⟨rfl, rfl⟩

theorem begins_eq (s t : ByteArray) (h : t.size ≤ s.size) : ((s.extract 0 t.size).toList == t.toList) = Lib.hasPrefix s.data.toList t.data.toList := by
  rw [Lib.toList_data, Lib.toList_data, Lib.extract_data, Bool.eq_iff_iff]
  unfold Lib.hasPrefix
  rw [List.isPrefixOf_iff_prefix, List.prefix_iff_eq_take, beq_iff_eq]
  simp
  exact eq_comm

theorem begins_no (s t : ByteArray) (h : ¬ t.size ≤ s.size) : Lib.hasPrefix s.data.toList t.data.toList = false := by
  rw [← Bool.not_eq_true]
  unfold Lib.hasPrefix
  rw [List.isPrefixOf_iff_prefix]
  intro hp
  have := hp.length_le
  simp at this
  exact h this

set_option maxHeartbeats 400000 in
theorem begins_any (s t : ByteArray) (w : World) (hs : s.size ≤ 4000000000) (ht : t.size ≤ 4000000000) :
    Calls Tryz.prog 68 #[.string s, .string t] w fun e w' => e = .returned (.bool (Lib.hasPrefix s.data.toList t.data.toList)) ∧ w = w' := by
  by_cases h : t.size ≤ s.size
  · have HE := hid (begins_eq s t h)
    have h' : (t.size : Int) ≤ (s.size : Int) := by omega
    have hd := decide_eq_true h'
    go_enter Tryz.func68, Tryz.ntmps68
    go_wp2
    go_ret
    exact ⟨ret_bool (by simpa using HE.out), rfl⟩
  · have HE := hid (begins_no s t h)
    have h' : ¬ (t.size : Int) ≤ (s.size : Int) := by omega
    have hd := decide_eq_false h'
    go_enter Tryz.func68, Tryz.ntmps68
    go_wp2
    go_ret
    exact ⟨ret_bool HE.out.symm, rfl⟩

theorem ends_eq (s t : ByteArray) (h : t.size ≤ s.size) : ((s.extract (s.size - t.size) s.size).toList == t.toList) = Lib.hasSuffix s.data.toList t.data.toList := by
  rw [Lib.toList_data, Lib.toList_data, Lib.extract_data, Bool.eq_iff_iff]
  unfold Lib.hasSuffix
  rw [List.isSuffixOf_iff_suffix, List.suffix_iff_eq_drop, beq_iff_eq]
  have e : s.size - (s.size - t.size) = t.size := by omega
  rw [e, List.take_of_length_le (by simp; omega)]
  simp
  exact eq_comm

theorem ends_no (s t : ByteArray) (h : ¬ t.size ≤ s.size) : Lib.hasSuffix s.data.toList t.data.toList = false := by
  rw [← Bool.not_eq_true]
  unfold Lib.hasSuffix
  rw [List.isSuffixOf_iff_suffix]
  intro hp
  have := hp.length_le
  simp at this
  exact h this

set_option maxHeartbeats 400000 in
theorem ends_any (s t : ByteArray) (w : World) (hs : s.size ≤ 4000000000) (ht : t.size ≤ 4000000000) :
    Calls Tryz.prog 46 #[.string s, .string t] w fun e w' => e = .returned (.bool (Lib.hasSuffix s.data.toList t.data.toList)) ∧ w = w' := by
  by_cases h : t.size ≤ s.size
  · have HE := hid (ends_eq s t h)
    have h' : (t.size : Int) ≤ (s.size : Int) := by omega
    have hd := decide_eq_true h'
    have ht : ((s.size : Int) - (t.size : Int)).toNat = s.size - t.size := by omega
    have h0 : (0 : Int) ≤ (s.size : Int) - (t.size : Int) := by omega
    have h1 : (s.size : Int) - (t.size : Int) ≤ (s.size : Int) := by omega
    go_enter Tryz.func46, Tryz.ntmps46
    go_wp2
    go_ret
    exact ⟨ret_bool (by simpa [ht] using HE.out), rfl⟩
  · have HE := hid (ends_no s t h)
    have h' : ¬ (t.size : Int) ≤ (s.size : Int) := by omega
    have hd := decide_eq_false h'
    go_enter Tryz.func46, Tryz.ntmps46
    go_wp2
    go_ret
    exact ⟨ret_bool HE.out.symm, rfl⟩

set_option maxHeartbeats 1000000 in
theorem rpart6_any (s : ByteArray) (c : UInt8) (w : World) (hs : s.size ≤ 4000000000) :
    Calls Tryz.prog 38 #[.string s, .int .u8 (c.toNat : Int)] w fun e w' => e = .returned (.tuple #[.string (ba (upA [c] s.data.toList)), .string (ba ((upR [c] s.data.toList).drop 1)), .bool (!(upR [c] s.data.toList).isEmpty)]) ∧ Below w.heap.size w w' := by
  go_enter Tryz.func38, Tryz.ntmps38
  go_wp2
  go_loop [7] (fun i => ∃ k : Nat, k ≤ s.size ∧ i = .int .i64 k ∧ c ∉ s.data.toList.take k) (fun i => s.size - (intOf i).toNat)
  case atStart => exact ⟨0, Nat.zero_le _, rfl, by simp⟩
  case round =>
    obtain ⟨k, hk, rfl, hno⟩ := hrel
    have HN := hid hno
    clear hno
    have hc8 := c.toNat_lt
    by_cases hlt : k < s.size
    · have hk' : (k : Int) ≤ (s.size : Int) := by omega
      have hk2 : (k : Int) + 1 ≤ (s.size : Int) := by omega
      by_cases he : s[k] = c
      · have HV := hid (show upA [c] s.data.toList = s.data.toList.take k ∧ upR [c] s.data.toList = c :: s.data.toList.drop (k + 1) by
          have e : s.data.toList = s.data.toList.take k ++ c :: s.data.toList.drop (k + 1) := by
            have := (List.take_append_drop k s.data.toList).symm
            rw [drop_cons s k hlt, he] at this
            exact this
          have h2 := up_stop [c] (s.data.toList.take k) (c :: s.data.toList.drop (k + 1)) (fun x hx => by
            simp only [List.contains_eq_mem, List.mem_singleton, decide_eq_false_iff_not]
            rintro rfl
            exact HN.out hx) (.inr ⟨c, _, rfl, by simp⟩)
          rw [← e] at h2
          exact h2)
        have e1 : ((s[k].toNat : Int) == (c.toNat : Int)) = true := by rw [he]; exact beq_self_eq_true _
        clear he
        go_wp2
        go_region
        go_wp2
        go_ret3
        refine ⟨?_, (Below.refl _ w).drew⟩
        rw [HV.out.1, HV.out.2]
        refine ret_ssb6 ?_ ?_ rfl
        · exact xba (by rw [Lib.extract_data]; simp [ba])
        · first | exact xba (by rw [extract_drop]; rfl) | exact xba (by rw [show ((k : Int) + 1).toNat = k + 1 by omega, extract_drop]; rfl)
      · have HT := hid (take_snoc s k hlt)
        have e1 : ((s[k].toNat : Int) == (c.toNat : Int)) = false := by rw [beq_eq_false_iff_ne]; intro e; exact he (UInt8.toNat_inj.1 (by omega))
        have HN2 := hid (show c ∉ s.data.toList.take (k + 1) by
          rw [HT.out, List.mem_append]
          rintro (h | h)
          · exact HN.out h
          · simp at h; exact he h.symm)
        clear he
        go_wp2
        go_round
        case rel => exact ⟨k + 1, by omega, by go_num, HN2.out⟩
        case measure => simp [intOf]; omega
    · have hno := HN.out
      rw [take_all s k hlt] at hno
      have HV := hid (show upA [c] s.data.toList = s.data.toList ∧ upR [c] s.data.toList = [] by
        have h2 := up_stop [c] s.data.toList [] (fun x hx => by
            simp only [List.contains_eq_mem, List.mem_singleton, decide_eq_false_iff_not]
            rintro rfl
            exact hno hx) (.inl rfl)
        rwa [List.append_nil] at h2)
      clear hno
      go_wp2
      go_ret3
      rw [HV.out.1, HV.out.2]
      exact ⟨ret_ssb6 (ba_self s).symm rfl rfl, Below.refl _ _⟩


end Go.Proofs.YtiemggepdeaogaaGreatDoor
