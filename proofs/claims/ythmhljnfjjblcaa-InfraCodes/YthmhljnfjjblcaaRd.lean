/-
  The walks of the document's own answers of chapter 1: ostiaryref1's In.
-/
import Derived.Test.YthmhljnfjjblcaaRa
import Derived.Test.YthmhljnfjjblcaaPd
import Derived.Test.YthmhljnfjjblcaaPe
import Derived.RegionTactic
set_option linter.unusedSimpArgs false
set_option linter.unusedVariables false
namespace Go.Proofs.Ythmhljnfjjblcaa
open Go.RowKit

/-- A control byte, or one of the first m of t. -/
def inTo (c : Int) (t : List UInt8) (m : Nat) : Bool := (decide (c < 32) || decide (126 < c)) || (t.take m).any fun x => c == (x.toNat : Int)

theorem inTo_zero (c : Int) (t : List UInt8) : inTo c t 0 = (decide (c < 32) || decide (126 < c)) := by simp [inTo]

theorem inTo_succ (c : Int) (t : ByteArray) (k : Nat) (h : k < t.size) : inTo c t.data.toList (k + 1) = (inTo c t.data.toList k || c == (t[k].toNat : Int)) := by
  unfold inTo
  rw [take_snoc t k h, List.any_append, Bool.or_assoc]
  have e : [t[k]].any (fun x => c == (x.toNat : Int)) = (c == (t[k].toNat : Int)) := by simp
  rw [e]
  simp only [Bool.or_assoc]

theorem inTo_all (c : Int) (t : ByteArray) : inTo c t.data.toList t.size = ((decide (c < 32) || decide (126 < c)) || t.data.toList.any fun x => c == (x.toNat : Int)) := by
  unfold inTo
  rw [take_all t t.size (by omega)]

def setL (set : Int) : List UInt8 :=
  if set = 2 then [32, 34, 60, 62, 96] else if set = 3 then [32, 34, 35, 60, 62] else if set = 4 then [32, 34, 35, 60, 62, 39] else if set = 5 then [32, 34, 35, 60, 62, 63, 94, 96, 123, 125] else if set = 6 then [32, 34, 35, 60, 62, 63, 94, 96, 123, 125, 47, 58, 59, 61, 64, 91, 92, 93, 124] else []

theorem setL_in (c set : Int) (h : 1 ≤ set ∧ set ≤ 6) : ((decide (c < 32) || decide (126 < c)) || (setL set).any fun x => c == (x.toNat : Int)) = inSetI c set := by
  rw [Bool.eq_iff_iff, inSetI_iff]
  have h' : set = 1 ∨ set = 2 ∨ set = 3 ∨ set = 4 ∨ set = 5 ∨ set = 6 := by omega
  rcases h' with rfl | rfl | rfl | rfl | rfl | rfl <;> simp [setL, inSetP] <;> omega

theorem inSet_outer (c set : Int) (h : ¬ (1 ≤ set ∧ set ≤ 6)) : inSetI c set = false := by
  have : ¬ inSetP c set := fun h' => h h'.1
  simp [inSetI, this]

set_option maxHeartbeats 1000000 in
theorem rin_1 (c : Int) (w : World) :
    Calls Try.prog 58 #[.int .u8 c, .int .i64 1] w fun e w' => e = .returned (.bool (inSetI c 1)) ∧ w = w' := by
  have HF := hid (setL_in c 1 (by omega))
  have hc : c < 32 ∨ (32 ≤ c ∧ 126 < c) ∨ (32 ≤ c ∧ c ≤ 126) := by omega
  rcases hc with hc | ⟨hc1, hc2⟩ | ⟨hc1, hc2⟩
  all_goals
    go_enter Try.func58, Try.ntmps58
    go_wp2
    generalize hT : ByteArray.mk #[] = t
    have hts : t.size ≤ 19 := by rw [← hT]; decide
    have HA : Hid (inTo c t.data.toList t.size = inSetI c 1) := hid ((inTo_all c t).trans (by rw [← hT]; exact HF.out))
    clear hT HF
    go_loop [5, 7] (fun o j => ∃ m : Nat, m ≤ t.size ∧ j = .int .i64 m ∧ o = .bool (inTo c t.data.toList m)) (fun _ j => t.size - (intOf j).toNat)
    case atStart => exact ⟨0, by omega, rfl, by rw [inTo_zero] <;> (try congr 1) <;> (try simp) <;> omega⟩
    case round =>
      obtain ⟨m, hm, rfl, rfl⟩ := hrel
      by_cases hlt : m < t.size
      · have HS := hid (inTo_succ c t m hlt)
        have hot : inTo c t.data.toList m = true ∨ inTo c t.data.toList m = false := by cases inTo c t.data.toList m <;> simp
        rcases hot with hot | hot
        all_goals
          go_wp2
          go_round
          case rel => exact ⟨m + 1, by omega, by go_num, by rw [HS.out, hot]; simp⟩
          case measure => simp [intOf]; omega
      · obtain rfl : m = t.size := by omega
        go_wp2
        go_ret
        exact ⟨ret_bool HA.out, rfl⟩

set_option maxHeartbeats 1000000 in
theorem rin_2 (c : Int) (w : World) :
    Calls Try.prog 58 #[.int .u8 c, .int .i64 2] w fun e w' => e = .returned (.bool (inSetI c 2)) ∧ w = w' := by
  have HF := hid (setL_in c 2 (by omega))
  have hc : c < 32 ∨ (32 ≤ c ∧ 126 < c) ∨ (32 ≤ c ∧ c ≤ 126) := by omega
  rcases hc with hc | ⟨hc1, hc2⟩ | ⟨hc1, hc2⟩
  all_goals
    go_enter Try.func58, Try.ntmps58
    go_wp2
    generalize hT : ByteArray.mk #[32, 34, 60, 62, 96] = t
    have hts : t.size ≤ 19 := by rw [← hT]; decide
    have HA : Hid (inTo c t.data.toList t.size = inSetI c 2) := hid ((inTo_all c t).trans (by rw [← hT]; exact HF.out))
    clear hT HF
    go_loop [5, 7] (fun o j => ∃ m : Nat, m ≤ t.size ∧ j = .int .i64 m ∧ o = .bool (inTo c t.data.toList m)) (fun _ j => t.size - (intOf j).toNat)
    case atStart => exact ⟨0, by omega, rfl, by rw [inTo_zero] <;> (try congr 1) <;> (try simp) <;> omega⟩
    case round =>
      obtain ⟨m, hm, rfl, rfl⟩ := hrel
      by_cases hlt : m < t.size
      · have HS := hid (inTo_succ c t m hlt)
        have hot : inTo c t.data.toList m = true ∨ inTo c t.data.toList m = false := by cases inTo c t.data.toList m <;> simp
        rcases hot with hot | hot
        all_goals
          go_wp2
          go_round
          case rel => exact ⟨m + 1, by omega, by go_num, by rw [HS.out, hot]; simp⟩
          case measure => simp [intOf]; omega
      · obtain rfl : m = t.size := by omega
        go_wp2
        go_ret
        exact ⟨ret_bool HA.out, rfl⟩

set_option maxHeartbeats 1000000 in
theorem rin_3 (c : Int) (w : World) :
    Calls Try.prog 58 #[.int .u8 c, .int .i64 3] w fun e w' => e = .returned (.bool (inSetI c 3)) ∧ w = w' := by
  have HF := hid (setL_in c 3 (by omega))
  have hc : c < 32 ∨ (32 ≤ c ∧ 126 < c) ∨ (32 ≤ c ∧ c ≤ 126) := by omega
  rcases hc with hc | ⟨hc1, hc2⟩ | ⟨hc1, hc2⟩
  all_goals
    go_enter Try.func58, Try.ntmps58
    go_wp2
    generalize hT : ByteArray.mk #[32, 34, 35, 60, 62] = t
    have hts : t.size ≤ 19 := by rw [← hT]; decide
    have HA : Hid (inTo c t.data.toList t.size = inSetI c 3) := hid ((inTo_all c t).trans (by rw [← hT]; exact HF.out))
    clear hT HF
    go_loop [5, 7] (fun o j => ∃ m : Nat, m ≤ t.size ∧ j = .int .i64 m ∧ o = .bool (inTo c t.data.toList m)) (fun _ j => t.size - (intOf j).toNat)
    case atStart => exact ⟨0, by omega, rfl, by rw [inTo_zero] <;> (try congr 1) <;> (try simp) <;> omega⟩
    case round =>
      obtain ⟨m, hm, rfl, rfl⟩ := hrel
      by_cases hlt : m < t.size
      · have HS := hid (inTo_succ c t m hlt)
        have hot : inTo c t.data.toList m = true ∨ inTo c t.data.toList m = false := by cases inTo c t.data.toList m <;> simp
        rcases hot with hot | hot
        all_goals
          go_wp2
          go_round
          case rel => exact ⟨m + 1, by omega, by go_num, by rw [HS.out, hot]; simp⟩
          case measure => simp [intOf]; omega
      · obtain rfl : m = t.size := by omega
        go_wp2
        go_ret
        exact ⟨ret_bool HA.out, rfl⟩

set_option maxHeartbeats 1000000 in
theorem rin_4 (c : Int) (w : World) :
    Calls Try.prog 58 #[.int .u8 c, .int .i64 4] w fun e w' => e = .returned (.bool (inSetI c 4)) ∧ w = w' := by
  have HF := hid (setL_in c 4 (by omega))
  have hc : c < 32 ∨ (32 ≤ c ∧ 126 < c) ∨ (32 ≤ c ∧ c ≤ 126) := by omega
  rcases hc with hc | ⟨hc1, hc2⟩ | ⟨hc1, hc2⟩
  all_goals
    go_enter Try.func58, Try.ntmps58
    go_wp2
    generalize hT : ByteArray.mk #[32, 34, 35, 60, 62, 39] = t
    have hts : t.size ≤ 19 := by rw [← hT]; decide
    have HA : Hid (inTo c t.data.toList t.size = inSetI c 4) := hid ((inTo_all c t).trans (by rw [← hT]; exact HF.out))
    clear hT HF
    go_loop [5, 7] (fun o j => ∃ m : Nat, m ≤ t.size ∧ j = .int .i64 m ∧ o = .bool (inTo c t.data.toList m)) (fun _ j => t.size - (intOf j).toNat)
    case atStart => exact ⟨0, by omega, rfl, by rw [inTo_zero] <;> (try congr 1) <;> (try simp) <;> omega⟩
    case round =>
      obtain ⟨m, hm, rfl, rfl⟩ := hrel
      by_cases hlt : m < t.size
      · have HS := hid (inTo_succ c t m hlt)
        have hot : inTo c t.data.toList m = true ∨ inTo c t.data.toList m = false := by cases inTo c t.data.toList m <;> simp
        rcases hot with hot | hot
        all_goals
          go_wp2
          go_round
          case rel => exact ⟨m + 1, by omega, by go_num, by rw [HS.out, hot]; simp⟩
          case measure => simp [intOf]; omega
      · obtain rfl : m = t.size := by omega
        go_wp2
        go_ret
        exact ⟨ret_bool HA.out, rfl⟩

set_option maxHeartbeats 1000000 in
theorem rin_5 (c : Int) (w : World) :
    Calls Try.prog 58 #[.int .u8 c, .int .i64 5] w fun e w' => e = .returned (.bool (inSetI c 5)) ∧ w = w' := by
  have HF := hid (setL_in c 5 (by omega))
  have hc : c < 32 ∨ (32 ≤ c ∧ 126 < c) ∨ (32 ≤ c ∧ c ≤ 126) := by omega
  rcases hc with hc | ⟨hc1, hc2⟩ | ⟨hc1, hc2⟩
  all_goals
    go_enter Try.func58, Try.ntmps58
    go_wp2
    generalize hT : ByteArray.mk #[32, 34, 35, 60, 62, 63, 94, 96, 123, 125] = t
    have hts : t.size ≤ 19 := by rw [← hT]; decide
    have HA : Hid (inTo c t.data.toList t.size = inSetI c 5) := hid ((inTo_all c t).trans (by rw [← hT]; exact HF.out))
    clear hT HF
    go_loop [5, 7] (fun o j => ∃ m : Nat, m ≤ t.size ∧ j = .int .i64 m ∧ o = .bool (inTo c t.data.toList m)) (fun _ j => t.size - (intOf j).toNat)
    case atStart => exact ⟨0, by omega, rfl, by rw [inTo_zero] <;> (try congr 1) <;> (try simp) <;> omega⟩
    case round =>
      obtain ⟨m, hm, rfl, rfl⟩ := hrel
      by_cases hlt : m < t.size
      · have HS := hid (inTo_succ c t m hlt)
        have hot : inTo c t.data.toList m = true ∨ inTo c t.data.toList m = false := by cases inTo c t.data.toList m <;> simp
        rcases hot with hot | hot
        all_goals
          go_wp2
          go_round
          case rel => exact ⟨m + 1, by omega, by go_num, by rw [HS.out, hot]; simp⟩
          case measure => simp [intOf]; omega
      · obtain rfl : m = t.size := by omega
        go_wp2
        go_ret
        exact ⟨ret_bool HA.out, rfl⟩

set_option maxHeartbeats 1000000 in
theorem rin_6 (c : Int) (w : World) :
    Calls Try.prog 58 #[.int .u8 c, .int .i64 6] w fun e w' => e = .returned (.bool (inSetI c 6)) ∧ w = w' := by
  have HF := hid (setL_in c 6 (by omega))
  have hc : c < 32 ∨ (32 ≤ c ∧ 126 < c) ∨ (32 ≤ c ∧ c ≤ 126) := by omega
  rcases hc with hc | ⟨hc1, hc2⟩ | ⟨hc1, hc2⟩
  all_goals
    go_enter Try.func58, Try.ntmps58
    go_wp2
    generalize hT : ByteArray.mk #[32, 34, 35, 60, 62, 63, 94, 96, 123, 125, 47, 58, 59, 61, 64, 91, 92, 93, 124] = t
    have hts : t.size ≤ 19 := by rw [← hT]; decide
    have HA : Hid (inTo c t.data.toList t.size = inSetI c 6) := hid ((inTo_all c t).trans (by rw [← hT]; exact HF.out))
    clear hT HF
    go_loop [5, 7] (fun o j => ∃ m : Nat, m ≤ t.size ∧ j = .int .i64 m ∧ o = .bool (inTo c t.data.toList m)) (fun _ j => t.size - (intOf j).toNat)
    case atStart => exact ⟨0, by omega, rfl, by rw [inTo_zero] <;> (try congr 1) <;> (try simp) <;> omega⟩
    case round =>
      obtain ⟨m, hm, rfl, rfl⟩ := hrel
      by_cases hlt : m < t.size
      · have HS := hid (inTo_succ c t m hlt)
        have hot : inTo c t.data.toList m = true ∨ inTo c t.data.toList m = false := by cases inTo c t.data.toList m <;> simp
        rcases hot with hot | hot
        all_goals
          go_wp2
          go_round
          case rel => exact ⟨m + 1, by omega, by go_num, by rw [HS.out, hot]; simp⟩
          case measure => simp [intOf]; omega
      · obtain rfl : m = t.size := by omega
        go_wp2
        go_ret
        exact ⟨ret_bool HA.out, rfl⟩

set_option maxHeartbeats 1000000 in
theorem rin_any (c set : Int) (w : World) :
    Calls Try.prog 58 #[.int .u8 c, .int .i64 set] w fun e w' => e = .returned (.bool (inSetI c set)) ∧ w = w' := by
  by_cases hset : 1 ≤ set ∧ set ≤ 6
  · have h' : set = 1 ∨ set = 2 ∨ set = 3 ∨ set = 4 ∨ set = 5 ∨ set = 6 := by omega
    rcases h' with rfl | rfl | rfl | rfl | rfl | rfl
    · exact rin_1 c w
    · exact rin_2 c w
    · exact rin_3 c w
    · exact rin_4 c w
    · exact rin_5 c w
    · exact rin_6 c w
  · have HN := hid (inSet_outer c set hset)
    have h1 : (set == 1) = false := by simp; omega
    have h2 : (set == 2) = false := by simp; omega
    have h3 : (set == 3) = false := by simp; omega
    have h4 : (set == 4) = false := by simp; omega
    have h5 : (set == 5) = false := by simp; omega
    have h6 : (set == 6) = false := by simp; omega
    clear hset
    have hc : c < 32 ∨ (32 ≤ c ∧ 126 < c) ∨ (32 ≤ c ∧ c ≤ 126) := by omega
    rcases hc with hc | ⟨hc1, hc2⟩ | ⟨hc1, hc2⟩
    all_goals
      go_enter Try.func58, Try.ntmps58
      go_wp2
      go_ret
      exact ⟨ret_bool HN.out.symm, rfl⟩

end Go.Proofs.Ythmhljnfjjblcaa
