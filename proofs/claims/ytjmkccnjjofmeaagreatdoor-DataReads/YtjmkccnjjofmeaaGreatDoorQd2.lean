/-
  Walks and plain facts that this claim leans on, put together out of 1 texts: Ea.
-/
import Derived.Test.YtjmkccnjjofmeaaGreatDoorProg
import Derived.Test.YtjmkccnjjofmeaaGreatDoorQa1
import Derived.Test.YtjmkccnjjofmeaaGreatDoorQa2
import Derived.Test.YtjmkccnjjofmeaaGreatDoorQa3
import Derived.Test.YtjmkccnjjofmeaaGreatDoorQa4
import Derived.Test.YtjmkccnjjofmeaaGreatDoorQa5
import Derived.Test.YtjmkccnjjofmeaaGreatDoorQa6
import Derived.Test.YtjmkccnjjofmeaaGreatDoorQa7
import Derived.Test.YtjmkccnjjofmeaaGreatDoorQa8
import Derived.Test.YtjmkccnjjofmeaaGreatDoorQa9
import Derived.Test.YtjmkccnjjofmeaaGreatDoorQa10
import Derived.Test.YtjmkccnjjofmeaaGreatDoorQa11
import Derived.Test.YtjmkccnjjofmeaaGreatDoorQa12
import Derived.Test.YtjmkccnjjofmeaaGreatDoorQa13
import Derived.Test.YtjmkccnjjofmeaaGreatDoorQa14
import Derived.Test.YtjmkccnjjofmeaaGreatDoorQa15
import Derived.Test.YtjmkccnjjofmeaaGreatDoorQa16
import Derived.Test.YtjmkccnjjofmeaaGreatDoorQa17
import Derived.Test.YtjmkccnjjofmeaaGreatDoorQa18
import Derived.Test.YtjmkccnjjofmeaaGreatDoorQa19
import Derived.Test.YtjmkccnjjofmeaaGreatDoorQa20
import Derived.Test.YtjmkccnjjofmeaaGreatDoorQa21
import Derived.Test.YtjmkccnjjofmeaaGreatDoorQa22
import Derived.Test.YtjmkccnjjofmeaaGreatDoorQa23
import Derived.Test.YtjmkccnjjofmeaaGreatDoorQa24
import Derived.Test.YtjmkccnjjofmeaaGreatDoorQa25
import Derived.Test.YtjmkccnjjofmeaaGreatDoorQa26
import Derived.Test.YtjmkccnjjofmeaaGreatDoorQa27
import Derived.Test.YtjmkccnjjofmeaaGreatDoorQa28
import Derived.Test.YtjmkccnjjofmeaaGreatDoorQd1
import Derived.Laws.OwnMore
import Derived.Below
import Derived.WalkSmall
import Derived.Lib.SmallJoins
import Derived.Deep.RegionWith
import Derived.Lib.SlTrimSet
import Derived.Lib.Join
import Derived.Lib.IndexMore
import Derived.Deep.QuietTactic
import Derived.BigQuiet
import Derived.Maps.OwnSet
import Derived.Maps.OwnOps
import Derived.Maps.AppendAt
import Derived.StringKeys
import Derived.Lib.LastIndexByte
import Derived.Laws.AppendOwn
import Derived.Lib.BufferMore
import Derived.WalkKit
import Derived.WalkSpells
import Derived.WalkLawsBesides
import Derived.LoopN
import Derived.RegionTactic
import Derived.Laws.Runes
import Derived.Laws.RangeAny
import Derived.Lib.DecodeN
import Derived.Lib.OthersKept
import Derived.Deep.LoopGhost
import Derived.Shelf.Strings.Builder1
import Derived.Shelf.Strings.Builder2
import Derived.Shelf.Strings.OnBuilder
import Derived.Shelf.Strings.Trim
import Derived.Shelf.Small.Utf8
import Derived.Shelf.Small.Strs
import Derived.Shelf.Small.Wraps
import Derived.Shelf.Strings.BuilderF
import Derived.Shelf.Strings.BuilderK
import Derived.Shelf.Strings.Builder2Cap
import Derived.Shelf.Strconv.Itoa0
import Derived.Shelf.Strconv.Itoa1
import Derived.Shelf.LaysM
import Derived.Shelf.Strconv.Itoa2
import Derived.Shelf.Strconv.Itoa3
import Derived.Shelf.Strings.Search1
import Derived.Shelf.Strings.Search2
import Derived.Shelf.Strings.Search3
import Derived.Shelf.Strings.Cut
import Derived.Shelf.Strings.Count
import Derived.Shelf.Strings.Shaped
import Derived.Shelf.Strings.Prefix
import Derived.Shelf.Strings.Split
import Derived.Shelf.Strings.Replace
import Derived.Shelf.Strings.Runes
import Derived.Shelf.Strings.IndexAny
import Derived.Shelf.Strings.AsciiSet
import Derived.Shelf.Strings.IndexAnyAll
import Derived.Shelf.Unicode.DecodeSlow
import Derived.Lib.IndexAny
import Derived.Lib.BufferRead
import Derived.Lib.RuneBytes
import Derived.Laws.CopyRow
import Derived.Laws.CopyOwn
import Derived.Deep.RegionHeld
import Derived.BigRegion
import Derived.Deep.Cut
import Derived.Deep.CutRange
import Derived.Deep.DeepCutAuto
import Derived.Deep.RegionLaw
import Derived.Lib.Strings
import Derived.Lib.UnsafeStr
import Derived.Laws.IdiomStrings
import Derived.Lib.Bytealg
import Derived.Laws.BitsAllLaws
import Derived.Shelf.Strings.SlTrimAscii
import Derived.Lib.AppendIntMem
import Derived.Lib.FrozenHead2
import Derived.Lib.Builder
import Derived.Lib.AppendStr
import Derived.Lib.Replace
import Derived.Laws.BytesString
import Derived.Deep.MidRow
set_option linter.unusedSimpArgs false
set_option linter.unusedVariables false

namespace Go.Proofs.YtjmkccnjjofmeaaGreatDoor
open Go.RowKit

theorem own_far {w : World} {B n k j : Nat} {e : TypeId} {v : Value} {xs : List Value} (h : w.ownsRow B e k v n xs) : v.ownBlock ≠ some (w.heap.size + j) := fun e => by
  have := (h.lt _ e).2
  omega

theorem Tri.at {w w' : World} {p : Nat} {a m : ByteArray} {v : Value} (h : Tri w p a m v) (hb : Below w.heap.size w w') : w'.cell? ⟨p, 0, none⟩ = some (.string a) ∧ w'.cell? ⟨p, 1, none⟩ = some (.string m) ∧ w'.cell? ⟨p, 2, none⟩ = some v := (h.kept hb).cells

end Go.Proofs.YtjmkccnjjofmeaaGreatDoor

namespace Go.Proofs.YtjmkccnjjofmeaaGreatDoor

open Go.RowKit

set_option maxHeartbeats 400000 in
theorem rblank_any (c : Int) (w : World) :
    Calls Tryz.prog 63 #[.int .u8 c] w fun e w' => e = .returned (.bool (blankI c)) ∧ w = w' := by
  go_enter Tryz.func63, Tryz.ntmps63
  go_wp2
  all_goals
    go_ret
    exact ⟨ret_bool (by simp [blankI, Bool.or_assoc, *]), rfl⟩

def strN : Value → Nat
  | .string s => s.size
  | _ => 0

theorem extract_one (t : ByteArray) (h : 0 < t.size) : t.data.toList = t[0] :: (t.extract 1 t.size).data.toList := by
  rw [extract_drop]
  have := drop_cons t 0 h
  simpa using this

theorem extract_last (u : ByteArray) (h : u.size - 1 < u.size) : u.data.toList = (u.extract 0 (u.size - 1)).data.toList ++ [u[u.size - 1]] := by
  rw [Lib.extract_data]
  have := take_snoc u (u.size - 1) h
  rw [take_all u (u.size - 1 + 1) (by omega)] at this
  simpa using this

theorem strip_ref (s A M B : List UInt8) (e : s = A ++ M ++ B) (hA : A.all blC = true) (hB : B.all blC = true) (h : M = [] ∨ (∃ c r, M = c :: r ∧ blC c = false) ∧ ∃ r c, M = r ++ [c] ∧ blC c = false) : M = strip s := by
  rw [e, strip_parts A M B hA hB h]

set_option maxHeartbeats 1000000 in
theorem rstrip_any (s : ByteArray) (w : World) (hs : s.size ≤ 140737488351232) :
    Calls Tryz.prog 32 #[.string s] w fun e w' => e = .returned (.string ⟨(strip s.data.toList).toArray⟩) ∧ w = w' := by
  go_enter Tryz.func32, Tryz.ntmps32
  go_wp2
  go_loop [0] (fun ts => ∃ (t : ByteArray) (A : List UInt8), ts = .string t ∧ s.data.toList = A ++ t.data.toList ∧ A.all blC = true ∧ t.size ≤ s.size) (fun ts => strN ts)
  case atStart => exact ⟨s, [], rfl, rfl, rfl, Nat.le_refl _⟩
  case round =>
    obtain ⟨t, A, rfl, hsA, hA, hts⟩ := hrel
    have HS := hid hsA
    have HA := hid hA
    clear hsA hA
    by_cases hgo : ∃ h : 0 < t.size, blankI (t[0].toNat : Int) = true
    · obtain ⟨h0, hbl⟩ := hgo
      have h0' : (0 : Int) < (t.size : Int) := by omega
      have HE := hid (extract_one t h0)
      go_wp2_with (go_at_call 63; refine (rblank_any _ _).mono ?_; rintro e w' ⟨rfl, rfl⟩)
      go_round
      case rel =>
        refine ⟨_, A ++ [t[0]], rfl, ?_, ?_, ?_⟩
        · rw [HS.out, HE.out]; simp
        · rw [List.all_append, HA.out]; simp [blC, hbl]
        · simp; omega
      case measure => simp [strN]; omega
    · have hx : t.size = 0 ∨ ∃ h : 0 < t.size, blankI (t[0].toNat : Int) = false := by
        by_cases h0 : 0 < t.size
        · right
          refine ⟨h0, ?_⟩
          have := fun h => hgo ⟨h0, h⟩
          simpa using this
        · left; omega
      clear hgo
      rcases hx with h0 | ⟨h0, hbl⟩
      · have h0' : (t.size : Int) ≤ 0 := by omega
        have hn : t.data.toList = [] := List.eq_nil_of_length_eq_zero (by simpa using h0)
        have HN := hid hn
        clear hn
        go_wp2
        refine wp_loop_rounds 1 ?_
        rw [rounds_succ]
        go_wp2
        go_ret
        refine ⟨ret_str ?_, rfl⟩
        refine strip_ref s.data.toList A _ [] (by rw [HS.out]; simp) HA.out rfl (.inl HN.out)
      · have h0' : (0 : Int) < (t.size : Int) := by omega
        have HE := hid (extract_one t h0)
        go_wp2_with (go_at_call 63; refine (rblank_any _ _).mono ?_; rintro e w' ⟨rfl, rfl⟩)
        go_loop [0] (fun us => ∃ (u : ByteArray) (B : List UInt8), us = .string u ∧ t.data.toList = u.data.toList ++ B ∧ B.all blC = true ∧ u.size ≤ s.size) (fun us => strN us)
        case atStart => exact ⟨t, [], rfl, by simp, rfl, hts⟩
        case round =>
          obtain ⟨u, B, rfl, htB, hB, hus⟩ := hrel
          have HT := hid htB
          have HB := hid hB
          clear htB hB
          by_cases hu0 : u.size = 0
          · have hu0' : (u.size : Int) ≤ 0 := by omega
            have hn : u.data.toList = [] := List.eq_nil_of_length_eq_zero (by simpa using hu0)
            have HN := hid hn
            clear hn
            go_wp2
            go_ret
            refine ⟨ret_str ?_, rfl⟩
            exact strip_ref s.data.toList A _ B (by rw [HS.out, HT.out]; simp) HA.out HB.out (.inl HN.out)
          · have hlt : u.size - 1 < u.size := by omega
            have HL := hid (extract_last u hlt)
            have hu0' : (0 : Int) < (u.size : Int) := by omega
            by_cases hbq : blankI (u[u.size - 1].toNat : Int) = true
            · go_wp2_with (go_at_call 63; refine (rblank_any _ _).mono ?_; rintro e w' ⟨rfl, rfl⟩)
              go_round
              case rel =>
                refine ⟨_, u[u.size - 1] :: B, rfl, ?_, ?_, ?_⟩
                · rw [HT.out]; conv => lhs; rw [HL.out]
                  simp
                · rw [List.all_cons, HB.out]; simp [blC, hbq]
                · simp; omega
              case measure => simp [strN]; omega
            · have hbq' : blankI (u[u.size - 1].toNat : Int) = false := by simpa using hbq
              clear hbq
              have hfirst : ∃ c r, u.data.toList = c :: r ∧ blC c = false := by
                have h1 := HT.out
                rw [HE.out] at h1
                match hu : u.data.toList with
                | [] =>
                  have h5 : u.data.toList.length = 0 := by rw [hu]; rfl
                  rw [← Lib.size_eq] at h5
                  omega
                | c :: r =>
                  rw [hu] at h1
                  have : t[0] = c := by simpa using congrArg List.head? h1
                  exact ⟨c, r, rfl, by rw [← this]; exact hbl⟩
              have HF := hid hfirst
              clear hfirst
              go_wp2_with (go_at_call 63; refine (rblank_any _ _).mono ?_; rintro e w' ⟨rfl, rfl⟩)
              go_ret
              refine ⟨ret_str ?_, rfl⟩
              exact strip_ref s.data.toList A _ B (by rw [HS.out, HT.out]; simp) HA.out HB.out (.inr ⟨HF.out, _, _, HL.out, hbq'⟩)

def signsL : List UInt8 := [33, 35, 36, 37, 38, 39, 42, 43, 45, 46, 94, 95, 96, 124, 126]

/-- The first k signs, or a letter, or a digit. -/
def tokTo (c : Int) (k : Nat) : Bool := (letterI c || digitI c) || (signsL.take k).any fun x => c == (x.toNat : Int)

theorem tokTo_zero (c : Int) : tokTo c 0 = (letterI c || digitI c) := by simp [tokTo]

theorem tokTo_all (c : Int) : tokTo c 15 = tokI c := by
  have : signsL.take 15 = signsL := rfl
  unfold tokTo tokI signI
  rw [this]
  simp only [signsL, List.any_cons, List.any_nil, Bool.or_false]
  rw [Bool.or_comm]
  rfl

theorem tokTo_succ (c : Int) (k : Nat) (h : k < (ByteArray.mk #[33, 35, 36, 37, 38, 39, 42, 43, 45, 46, 94, 95, 96, 124, 126]).size) : tokTo c (k + 1) = (tokTo c k || c == ((ByteArray.mk #[33, 35, 36, 37, 38, 39, 42, 43, 45, 46, 94, 95, 96, 124, 126])[k].toNat : Int)) := by
  have h' : k < signsL.length := h
  unfold tokTo
  rw [List.take_succ_eq_append_getElem h', List.any_append, Bool.or_assoc]
  have e : [signsL[k]].any (fun x => c == (x.toNat : Int)) = (c == (signsL[k].toNat : Int)) := by simp
  rw [e]
  simp only [Bool.or_assoc]
  rfl

set_option maxHeartbeats 1000000 in
theorem rtoken_any (s : ByteArray) (w : World) (hs : s.size ≤ 140737488351232) :
    Calls Tryz.prog 68 #[.string s] w fun e w' => e = .returned (.bool (tokL s.data.toList)) ∧ w = w' := by
  have hs15 : (ByteArray.mk #[33, 35, 36, 37, 38, 39, 42, 43, 45, 46, 94, 95, 96, 124, 126]).size = 15 := rfl
  go_enter Tryz.func68, Tryz.ntmps68
  go_wp2
  go_loop [3] (fun i => ∃ k : Nat, k ≤ s.size ∧ i = .int .i64 k ∧ (s.data.toList.take k).all tokC = true) (fun i => s.size - (intOf i).toNat)
  case atStart => exact ⟨0, Nat.zero_le _, rfl, rfl⟩
  case round =>
    obtain ⟨k, hk, rfl, hall⟩ := hrel
    have HA := hid hall
    clear hall
    by_cases hlt : k < s.size
    · have HT := hid (take_snoc s k hlt)
      obtain ⟨z, hz⟩ : ∃ z, z = (letterI (s[k].toNat : Int) || digitI (s[k].toNat : Int)) := ⟨_, rfl⟩
      have hlet : letterI (s[k].toNat : Int) = true ∨ letterI (s[k].toNat : Int) = false := by cases letterI (s[k].toNat : Int) <;> simp
      rcases hlet with hlet | hlet
      all_goals
        go_wp2_with (first | (go_at_call 77; refine (rletter_any _ _).mono ?_; rintro e w' ⟨rfl, rfl⟩) | (go_at_call 78; refine (rdigit_any _ _).mono ?_; rintro e w' ⟨rfl, rfl⟩))
        go_loop [5, 6] (fun o j => ∃ m : Nat, m ≤ 15 ∧ j = .int .i64 m ∧ o = .bool (tokTo (s[k].toNat : Int) m)) (fun _ j => 15 - (intOf j).toNat)
        case atStart => exact ⟨0, by omega, rfl, by rw [tokTo_zero]; simp [hlet]⟩
        case round =>
          obtain ⟨m, hm, rfl, rfl⟩ := hrel
          by_cases hm15 : m < 15
          · have HS := hid (tokTo_succ (s[k].toNat : Int) m (by rw [hs15]; exact hm15))
            have hot : tokTo (s[k].toNat : Int) m = true ∨ tokTo (s[k].toNat : Int) m = false := by cases tokTo (s[k].toNat : Int) m <;> simp
            rcases hot with hot | hot
            all_goals
              go_wp2
              go_round
              case rel => exact ⟨m + 1, by omega, by go_num, by rw [HS.out, hot]; simp⟩
              case measure => simp [intOf]; omega
          · obtain rfl : m = 15 := by omega
            have hall := tokTo_all (s[k].toNat : Int)
            by_cases ht : tokI (s[k].toNat : Int) = true
            · rw [ht] at hall
              go_wp2
              go_round
              case rel => exact ⟨k + 1, by omega, by go_num, by rw [HT.out, List.all_append, HA.out]; simp [tokC, ht]⟩
              case measure => simp [intOf]; omega
            · have ht' : tokI (s[k].toNat : Int) = false := by simpa using ht
              rw [ht'] at hall
              go_wp2
              go_ret
              refine ⟨ret_bool ?_, rfl⟩
              have : s.data.toList.all tokC = false := by
                rw [List.all_eq_false]
                refine ⟨s[k], ?_, by simp [tokC, ht']⟩
                have : s[k] = s.data.toList[k]'(by simpa using hlt) := rfl
                rw [this]; exact List.getElem_mem _
              simp [tokL, this]
    · have ha := HA.out
      rw [take_all s k hlt] at ha
      have HA2 := hid ha
      clear ha
      go_wp2
      go_ret
      refine ⟨ret_bool ?_, rfl⟩
      by_cases h0 : 0 < s.size
      · have h1 : s.data.toList.isEmpty = false := by
          rw [List.isEmpty_eq_false_iff]
          intro h
          have h5 : s.data.toList.length = 0 := by rw [h]; rfl
          rw [← Lib.size_eq] at h5
          omega
        simp [tokL, HA2.out, h1, h0]
      · have h1 : s.data.toList = [] := List.eq_nil_of_length_eq_zero (by rw [← Lib.size_eq]; omega)
        have h2 : tokL s.data.toList = false := by rw [h1]; rfl
        rw [h2]
        simp only [decide_eq_false_iff_not]
        omega

end Go.Proofs.YtjmkccnjjofmeaaGreatDoor

namespace Go.Proofs.YtjmkccnjjofmeaaGreatDoor

open Go.RowKit

theorem ret_ssb6 {a b c d : ByteArray} {x y : Bool} (h : a = b) (g : c = d) (k : x = y) : Ending.returned (.tuple #[.string a, .string c, .bool x]) = .returned (.tuple #[.string b, .string d, .bool y]) := by rw [h, g, k]

def endI (c : Int) : Bool := c == 9 || (c == 32 || (c == 10 || c == 13))

set_option maxHeartbeats 400000 in
theorem ends_false (c : Int) (w : World) :
    Calls Tryz.prog 102 #[.int .u8 c, .bool false] w fun e w' => e = .returned (.bool (endI c)) ∧ w = w' := by
  go_enter Tryz.func102, Tryz.ntmps102
  go_wp2
  all_goals
    go_ret
    exact ⟨ret_bool (by simp [endI, *, Bool.or_assoc]), rfl⟩

theorem dropWhile_left (p : UInt8 → Bool) (A X : List UInt8) (h : A.all p = true) : (A ++ X).dropWhile p = X.dropWhile p := by
  induction A with
  | nil => rfl
  | cons a A ih =>
    simp only [List.all_cons, Bool.and_eq_true] at h
    rw [List.cons_append, List.dropWhile_cons_of_pos h.1, ih h.2]

theorem dropWhile_stop5 (p : UInt8 → Bool) (X Y : List UInt8) (c : UInt8) (hc : p c = false) : (X ++ c :: Y).dropWhile p = X.dropWhile p ++ c :: Y := by
  induction X with
  | nil => rw [List.nil_append, List.dropWhile_cons_of_neg (by simp [hc])]; rfl
  | cons x X ih =>
    cases hx : p x with
    | true => rw [List.cons_append, List.dropWhile_cons_of_pos hx, List.dropWhile_cons_of_pos hx, ih]
    | false => rw [List.cons_append, List.dropWhile_cons_of_neg (by simp [hx]), List.dropWhile_cons_of_neg (by simp [hx])]; rfl

theorem all_split (p : UInt8 → Bool) : ∀ l : List UInt8, ¬ l.all p = true → ∃ A c r, A.all p = true ∧ p c = false ∧ l = A ++ c :: r
  | [], h => absurd rfl h
  | x :: l, h => by
    cases hx : p x with
    | false => exact ⟨[], x, l, rfl, hx, rfl⟩
    | true =>
      obtain ⟨A, c, r, h1, h2, h3⟩ := all_split p l (fun e => h (by rw [List.all_cons, hx, e]; rfl))
      exact ⟨x :: A, c, r, by rw [List.all_cons, hx, h1]; rfl, h2, by rw [h3]; rfl⟩

/-- Which end is stripped first does not matter. -/
theorem trim_comm (p : UInt8 → Bool) (l : List UInt8) : ((l.dropWhile p).reverse.dropWhile p).reverse = (l.reverse.dropWhile p).reverse.dropWhile p := by
  by_cases h : l.all p = true
  · have h1 : l.dropWhile p = [] := by
      have := dropWhile_left p l [] h
      simpa using this
    have h2 : l.reverse.dropWhile p = [] := by
      have := dropWhile_left p l.reverse [] (by simpa using h)
      simpa using this
    rw [h1, h2]; rfl
  · obtain ⟨A, c, r, hA, hc, rfl⟩ := all_split p l h
    rw [dropWhile_left p A _ hA, List.dropWhile_cons_of_neg (by simp [hc])]
    rw [List.reverse_cons, List.reverse_append, List.reverse_cons, List.append_assoc, List.singleton_append]
    rw [dropWhile_stop5 p _ _ c hc, dropWhile_stop5 p _ _ c hc]
    rw [List.reverse_append, List.reverse_append, List.reverse_cons, List.reverse_cons, List.reverse_reverse]
    simp only [List.reverse_nil, List.nil_append, List.append_assoc, List.singleton_append]
    rw [dropWhile_left p A _ hA, List.dropWhile_cons_of_neg (by simp [hc])]

def pE (c : UInt8) : Bool := endI c.toNat

theorem pE_contains (c : UInt8) : [(9 : UInt8), 10, 13, 32].contains c = pE c := by
  rw [Bool.eq_iff_iff]
  simp only [List.contains_eq_mem, List.mem_cons, List.not_mem_nil, or_false, decide_eq_true_eq, pE, endI, Bool.or_eq_true, beq_iff_eq]
  have e : ∀ n : Nat, n < 256 → ((c.toNat : Int) = (n : Int) ↔ c = UInt8.ofNat n) := fun n hn => by
    have := byteInt c n hn
    rw [Bool.eq_iff_iff] at this
    simpa using this
  have e9 : (c.toNat : Int) = 9 ↔ c = 9 := e 9 (by omega)
  have e10 : (c.toNat : Int) = 10 ↔ c = 10 := e 10 (by omega)
  have e13 : (c.toNat : Int) = 13 ↔ c = 13 := e 13 (by omega)
  have e32 : (c.toNat : Int) = 32 ↔ c = 32 := e 32 (by omega)
  constructor
  · rintro (h | h | h | h) <;> (subst h; decide)
  · rintro (h | h | h | h)
    · exact .inl (e9.1 h)
    · exact .inr (.inr (.inr (e32.1 h)))
    · exact .inr (.inl (e10.1 h))
    · exact .inr (.inr (.inl (e13.1 h)))

theorem tB_strip (l : List UInt8) : tB l = ((l.dropWhile pE).reverse.dropWhile pE).reverse := by
  rw [trim_comm]
  unfold tB bl4 Lib.trimS Lib.trimLeftS Lib.trimRightS
  have : (fun c => [(9 : UInt8), 10, 13, 32].contains c) = pE := funext pE_contains
  rw [this]

theorem ext_from1 (S : ByteArray) (h : 0 < S.size) : S.data.toList = S[0] :: (S.extract 1 S.size).data.toList := by
  have := drop_cons S 0 h
  rw [List.drop_zero] at this
  rw [this, extract_drop]

theorem ext_to1 (S : ByteArray) (h : 0 < S.size) : S.data.toList = (S.extract 0 (S.size - 1)).data.toList ++ [S[S.size - 1]'(by omega)] := by
  have h2 : S.data.toList.drop (S.size - 1) = [S[S.size - 1]'(by omega)] := by
    have h3 := drop_cons S (S.size - 1) (by omega)
    have h4 : S.data.toList.drop (S.size - 1 + 1) = [] := List.drop_eq_nil_of_le (by simp; omega)
    rw [h4] at h3
    exact h3
  rw [Lib.extract_data, List.drop_zero, Nat.sub_zero, ← h2, List.take_append_drop]

set_option maxHeartbeats 2000000 in
theorem rtrim_any (s : ByteArray) (w : World) (hs : s.size ≤ 9223372036854775807) :
    Calls Tryz.prog 66 #[.string s, .bool false] w fun e w' => e = .returned (.string ⟨(tB s.data.toList).toArray⟩) ∧ w = w' := by
  have HV := hid (tB_strip s.data.toList)
  go_enter Tryz.func66, Tryz.ntmps66
  go_wp2
  go_loop [0] (fun v => ∃ S : ByteArray, v = .string S ∧ S.size ≤ 9223372036854775807 ∧ S.data.toList.dropWhile pE = s.data.toList.dropWhile pE) (fun v => match v with | .string S => S.size | _ => 0)
  case atStart => exact ⟨s, rfl, hs, rfl⟩
  case round =>
    obtain ⟨S, rfl, hS, hd⟩ := hrel
    have HD := hid hd
    clear hd
    by_cases h0 : 0 < S.size
    · have h0' : (0 : Int) < (S.size : Int) := by omega
      have hx := ext_from1 S h0
      by_cases hp : endI (S[0].toNat : Int) = true
      · have h1 : (1 : Int) ≤ (S.size : Int) := by omega
        have HN := hid (show (S.extract 1 S.size).data.toList.dropWhile pE = s.data.toList.dropWhile pE by
          rw [← HD.out, hx, List.dropWhile_cons_of_pos (show pE S[0] = true from hp)])
        clear hx
        go_wp2_with (go_at_call 102; refine (ends_false _ _).mono ?_; rintro e w' ⟨rfl, rfl⟩)
        go_round
        case rel => exact ⟨S.extract 1 S.size, rfl, by simp; omega, HN.out⟩
        case measure => simp; omega
      · have hp' : endI (S[0].toNat : Int) = false := by simpa using hp
        have HN := hid (show S.data.toList = s.data.toList.dropWhile pE by
          rw [← HD.out, hx, List.dropWhile_cons_of_neg (show ¬ pE S[0] = true from hp), ← hx])
        clear hx hp
        have hSS : ∀ T : ByteArray, T.data.toList.reverse.dropWhile pE = S.data.toList.reverse.dropWhile pE → (T.data.toList = [] ∨ ∃ A c, T.data.toList = A ++ [c] ∧ pE c = false) → T = ⟨(tB s.data.toList).toArray⟩ := fun T h1 h2 => by
          refine xext ?_
          rw [HV.out, ← HN.out, ← h1]
          rcases h2 with h2 | ⟨A, c, h2, hc⟩
          · rw [h2]; rfl
          · rw [h2, List.reverse_append, List.reverse_cons, List.reverse_nil, List.nil_append, List.singleton_append, List.dropWhile_cons_of_neg (by simp [hc]), List.reverse_cons, List.reverse_reverse]
        have HSS := hid hSS
        clear hSS
        go_wp2_with (go_at_call 102; refine (ends_false _ _).mono ?_; rintro e w' ⟨rfl, rfl⟩)
        go_loop [0] (fun v => ∃ T : ByteArray, v = .string T ∧ T.size ≤ 9223372036854775807 ∧ T.data.toList.reverse.dropWhile pE = S.data.toList.reverse.dropWhile pE) (fun v => match v with | .string T => T.size | _ => 0)
        case atStart => exact ⟨S, rfl, hS, rfl⟩
        case round =>
          obtain ⟨T, rfl, hT, hd⟩ := hrel
          have HD2 := hid hd
          clear hd
          by_cases t0 : 0 < T.size
          · have t0' : (0 : Int) < (T.size : Int) := by omega
            have ht1 : (T.size : Int) - 1 < (T.size : Int) := by omega
            have ht2 : (0 : Int) ≤ (T.size : Int) - 1 := by omega
            have ht3 : ((T.size : Int) - 1).toNat = T.size - 1 := by omega
            have ht4 : (T.size : Int) - 1 ≤ (T.size : Int) := by omega
            have hx := ext_to1 T t0
            by_cases hp : endI ((T[T.size - 1]'(by omega)).toNat : Int) = true
            · have HN2 := hid (show (T.extract 0 (T.size - 1)).data.toList.reverse.dropWhile pE = S.data.toList.reverse.dropWhile pE by
                rw [← HD2.out]
                conv => rhs; rw [hx, List.reverse_append, List.reverse_cons, List.reverse_nil, List.nil_append, List.singleton_append, List.dropWhile_cons_of_pos (show pE (T[T.size - 1]'(by omega)) = true from hp)])
              clear hx
              go_wp2_with (go_at_call 102; refine (ends_false _ _).mono ?_; rintro e w' ⟨rfl, rfl⟩)
              go_round
              case rel => exact ⟨T.extract 0 (T.size - 1), rfl, by simp; omega, HN2.out⟩
              case measure => simp; omega
            · have hp' : endI ((T[T.size - 1]'(by omega)).toNat : Int) = false := by simpa using hp
              have HF := hid (HSS.out T HD2.out (.inr ⟨_, _, hx, hp'⟩))
              clear hx hp
              go_wp2_with (go_at_call 102; refine (ends_false _ _).mono ?_; rintro e w' ⟨rfl, rfl⟩)
              go_ret
              rw [← HF.out]
              exact ⟨rfl, rfl⟩
          · have t0' : decide ((0 : Int) < (T.size : Int)) = false := by rw [decide_eq_false_iff_not]; omega
            have HF := hid (HSS.out T HD2.out (.inl (List.eq_nil_of_length_eq_zero (by have := Lib.size_eq T; omega))))
            go_wp2
            go_ret
            rw [← HF.out]
            exact ⟨rfl, rfl⟩
    · have h0' : decide ((0 : Int) < (S.size : Int)) = false := by rw [decide_eq_false_iff_not]; omega
      have hSn : S.data.toList = [] := List.eq_nil_of_length_eq_zero (by have := Lib.size_eq S; omega)
      have HN := hid (show S.data.toList = s.data.toList.dropWhile pE by rw [← HD.out, hSn]; rfl)
      clear hSn
      have hSS : ∀ T : ByteArray, T.data.toList.reverse.dropWhile pE = S.data.toList.reverse.dropWhile pE → (T.data.toList = [] ∨ ∃ A c, T.data.toList = A ++ [c] ∧ pE c = false) → T = ⟨(tB s.data.toList).toArray⟩ := fun T h1 h2 => by
        refine xext ?_
        rw [HV.out, ← HN.out, ← h1]
        rcases h2 with h2 | ⟨A, c, h2, hc⟩
        · rw [h2]; rfl
        · rw [h2, List.reverse_append, List.reverse_cons, List.reverse_nil, List.nil_append, List.singleton_append, List.dropWhile_cons_of_neg (by simp [hc]), List.reverse_cons, List.reverse_reverse]
      have HSS := hid hSS
      clear hSS
      go_wp2
      go_loop [0] (fun v => ∃ T : ByteArray, v = .string T ∧ T.size ≤ 9223372036854775807 ∧ T.data.toList.reverse.dropWhile pE = S.data.toList.reverse.dropWhile pE) (fun v => match v with | .string T => T.size | _ => 0)
      case atStart => exact ⟨S, rfl, hS, rfl⟩
      case round =>
        obtain ⟨T, rfl, hT, hd⟩ := hrel
        have HD2 := hid hd
        clear hd
        by_cases t0 : 0 < T.size
        · have t0' : (0 : Int) < (T.size : Int) := by omega
          have ht1 : (T.size : Int) - 1 < (T.size : Int) := by omega
          have ht2 : (0 : Int) ≤ (T.size : Int) - 1 := by omega
          have ht3 : ((T.size : Int) - 1).toNat = T.size - 1 := by omega
          have ht4 : (T.size : Int) - 1 ≤ (T.size : Int) := by omega
          have hx := ext_to1 T t0
          by_cases hp : endI ((T[T.size - 1]'(by omega)).toNat : Int) = true
          · have HN2 := hid (show (T.extract 0 (T.size - 1)).data.toList.reverse.dropWhile pE = S.data.toList.reverse.dropWhile pE by
              rw [← HD2.out]
              conv => rhs; rw [hx, List.reverse_append, List.reverse_cons, List.reverse_nil, List.nil_append, List.singleton_append, List.dropWhile_cons_of_pos (show pE (T[T.size - 1]'(by omega)) = true from hp)])
            clear hx
            go_wp2_with (go_at_call 102; refine (ends_false _ _).mono ?_; rintro e w' ⟨rfl, rfl⟩)
            go_round
            case rel => exact ⟨T.extract 0 (T.size - 1), rfl, by simp; omega, HN2.out⟩
            case measure => simp; omega
          · have hp' : endI ((T[T.size - 1]'(by omega)).toNat : Int) = false := by simpa using hp
            have HF := hid (HSS.out T HD2.out (.inr ⟨_, _, hx, hp'⟩))
            clear hx hp
            go_wp2_with (go_at_call 102; refine (ends_false _ _).mono ?_; rintro e w' ⟨rfl, rfl⟩)
            go_ret
            rw [← HF.out]
            exact ⟨rfl, rfl⟩
        · have t0' : decide ((0 : Int) < (T.size : Int)) = false := by rw [decide_eq_false_iff_not]; omega
          have HF := hid (HSS.out T HD2.out (.inl (List.eq_nil_of_length_eq_zero (by have := Lib.size_eq T; omega))))
          go_wp2
          go_ret
          rw [← HF.out]
          exact ⟨rfl, rfl⟩

set_option maxHeartbeats 1000000 in
theorem rpart6_any (s : ByteArray) (c : UInt8) (w : World) (hs : s.size ≤ 4000000000) :
    Calls Tryz.prog 31 #[.string s, .int .u8 (c.toNat : Int)] w fun e w' => e = .returned (.tuple #[.string (ba (upA [c] s.data.toList)), .string (ba ((upR [c] s.data.toList).drop 1)), .bool (!(upR [c] s.data.toList).isEmpty)]) ∧ Below w.heap.size w w' := by
  go_enter Tryz.func31, Tryz.ntmps31
  go_wp2
  go_loop [7] (fun i => ∃ k : Nat, k ≤ s.size ∧ i = .int .i64 k ∧ c ∉ s.data.toList.take k) (fun i => s.size - (intOf i).toNat)
  case atStart => exact ⟨0, Nat.zero_le _, rfl, by simp⟩
  case round =>
    obtain ⟨k, hk, rfl, hno⟩ := hrel
    have HN := hid hno
    clear hno
    have hc8 := c.toNat_lt
    by_cases hlt : k < s.size
    · have hk' : (k : Int) ≤ (s.size : Int) := by omega
      have hk2 : (k : Int) + 1 ≤ (s.size : Int) := by omega
      by_cases he : s[k] = c
      · have HV := hid (show upA [c] s.data.toList = s.data.toList.take k ∧ upR [c] s.data.toList = c :: s.data.toList.drop (k + 1) by
          have e : s.data.toList = s.data.toList.take k ++ c :: s.data.toList.drop (k + 1) := by
            have := (List.take_append_drop k s.data.toList).symm
            rw [drop_cons s k hlt, he] at this
            exact this
          have h2 := up_stop [c] (s.data.toList.take k) (c :: s.data.toList.drop (k + 1)) (fun x hx => by
            simp only [List.contains_eq_mem, List.mem_singleton, decide_eq_false_iff_not]
            rintro rfl
            exact HN.out hx) (.inr ⟨c, _, rfl, by simp⟩)
          rw [← e] at h2
          exact h2)
        have e1 : ((s[k].toNat : Int) == (c.toNat : Int)) = true := by rw [he]; exact beq_self_eq_true _
        clear he
        go_wp2
        go_region
        go_wp2
        go_ret3
        refine ⟨?_, (Below.refl _ w).drew⟩
        rw [HV.out.1, HV.out.2]
        refine ret_ssb6 ?_ ?_ rfl
        · exact xba (by rw [Lib.extract_data]; simp [ba])
        · first | exact xba (by rw [extract_drop]; rfl) | exact xba (by rw [show ((k : Int) + 1).toNat = k + 1 by omega, extract_drop]; rfl)
      · have HT := hid (take_snoc s k hlt)
        have e1 : ((s[k].toNat : Int) == (c.toNat : Int)) = false := by rw [beq_eq_false_iff_ne]; intro e; exact he (UInt8.toNat_inj.1 (by omega))
        have HN2 := hid (show c ∉ s.data.toList.take (k + 1) by
          rw [HT.out, List.mem_append]
          rintro (h | h)
          · exact HN.out h
          · simp at h; exact he h.symm)
        clear he
        go_wp2
        go_round
        case rel => exact ⟨k + 1, by omega, by go_num, HN2.out⟩
        case measure => simp [intOf]; omega
    · have hno := HN.out
      rw [take_all s k hlt] at hno
      have HV := hid (show upA [c] s.data.toList = s.data.toList ∧ upR [c] s.data.toList = [] by
        have h2 := up_stop [c] s.data.toList [] (fun x hx => by
            simp only [List.contains_eq_mem, List.mem_singleton, decide_eq_false_iff_not]
            rintro rfl
            exact hno hx) (.inl rfl)
        rwa [List.append_nil] at h2)
      clear hno
      go_wp2
      go_ret3
      rw [HV.out.1, HV.out.2]
      exact ⟨ret_ssb6 (mba_self s).symm rfl rfl, Below.refl _ _⟩

end Go.Proofs.YtjmkccnjjofmeaaGreatDoor

namespace Go.Proofs.YtjmkccnjjofmeaaGreatDoor

open Go.RowKit

set_option maxHeartbeats 1000000 in
theorem rvalue_any (s : ByteArray) (w : World) (hs : s.size ≤ 140737488351232) :
    Calls Tryz.prog 70 #[.string s] w fun e w' => e = .returned (.bool (fitV s.data.toList)) ∧ w' = w := by
  go_enter Tryz.func70, Tryz.ntmps70
  go_wp2
  go_loop [3] (fun i => ∃ k : Nat, k ≤ s.size ∧ i = .int .i64 k ∧ fitV (s.data.toList.take k) = true) (fun i => s.size - (intOf i).toNat)
  case atStart => exact ⟨0, Nat.zero_le _, rfl, rfl⟩
  case round =>
    obtain ⟨k, hk, rfl, hf⟩ := hrel
    have HF := hid hf
    clear hf
    by_cases hlt : k < s.size
    · have hl : k < s.data.toList.length := by simpa using hlt
      have HS := hid (fit_step s.data.toList k hl)
      have HBd := hid (fit_bad s.data.toList k hl)
      have hx : s.data.toList[k] = s[k] := rfl
      rw [hx] at HS HBd
      go_wp2
      all_goals first
        | (go_round
           case rel => exact ⟨k + 1, by omega, by go_num, by rw [HS.out, HF.out, Bool.true_and]; unfold fitC; simp at *; omega⟩
           case measure => simp [intOf]; omega)
        | (go_ret
           exact ⟨ret_tf (HBd.out (by unfold fitC; simp at *; omega)).symm, rfl⟩)
    · have HA := hid (take_all s k hlt)
      go_wp2
      go_ret
      exact ⟨ret_tf (by rw [← HF.out, HA.out]), rfl⟩

theorem tB_x (l : List UInt8) : tB (120 :: l) = 120 :: tR l := by
  have h1 : tR (120 :: l) = 120 :: tR l := by
    unfold tR Lib.trimRightS
    rw [List.reverse_cons]
    have := dropWhile_stop5 (bl4.contains ·) l.reverse [] 120 (by decide)
    rw [this]
    simp
  show tL (tR (120 :: l)) = _
  rw [h1]
  exact tL_keep (by decide)

set_option maxHeartbeats 1000000 in
theorem rback_any (s : ByteArray) (w : World) (hs : s.size ≤ 4000000000) :
    Calls Tryz.prog 67 #[.string s] w fun e w' => e = .returned (.string (ba (tR s.data.toList))) ∧ w = w' := by
  have h1 : ((⟨#[120]⟩ : ByteArray) ++ s).data.toList = 120 :: s.data.toList := by simp
  have hz : ((⟨#[120]⟩ : ByteArray) ++ s).size ≤ 9223372036854775807 := by rw [Lib.size_eq, h1, List.length_cons, ← Lib.size_eq]; omega
  obtain ⟨T, hT⟩ : ∃ T, ba (120 :: tR s.data.toList) = T := ⟨_, rfl⟩
  have HTr : Hid (∀ w : World, Calls Tryz.prog 66 #[.string ((⟨#[120]⟩ : ByteArray) ++ s), .bool false] w fun e w' => e = .returned (.string T) ∧ w = w') := fun w => by
    have := rtrim_any ((⟨#[120]⟩ : ByteArray) ++ s) w hz
    rw [h1, tB_x] at this
    rw [← hT]; exact this
  have hT1 : (1 : Int) ≤ (T.size : Int) := by rw [← hT, ba_size, List.length_cons]; omega
  have HV := hid (show T.extract 1 T.size = ba (tR s.data.toList) from xba (by rw [extract_drop, ← hT]; rfl))
  clear h1 hz hT
  go_enter Tryz.func67, Tryz.ntmps67
  go_wp2_with fail
  refine (HTr.out _).mono ?_
  rintro e w1 ⟨rfl, rfl⟩
  go_wp2
  go_ret
  rw [HV.out]
  exact ⟨rfl, rfl⟩

theorem str_app (s : ByteArray) (k : Nat) (h : k < s.size) (T : List UInt8) : (ba T : ByteArray) ++ s.extract k (k + 1) = ba (T ++ [s[k]]) := word_app s k h T

set_option maxHeartbeats 4000000 in
set_option maxRecDepth 100000 in
theorem rquoted_any (s : ByteArray) (w : World) (hs : s.size ≤ 4000000000) :
    Calls Tryz.prog 103 #[.string s] w fun e w' => e = .returned (.tuple #[.string (ba (quo s.data.toList).1), .string (ba (quo s.data.toList).2)]) ∧ Below w.heap.size w w' := by
  go_enter Tryz.func103, Tryz.ntmps103
  go_wp2
  go_loopw [4, 5] (fun o i wr => ∃ (k : Nat) (T : List UInt8), k ≤ s.size ∧ i = .int .i64 k ∧ o = .string (ba T) ∧ T.length ≤ k ∧ QR (quo s.data.toList).1 (quo s.data.toList).2 T (s.data.toList.drop k) ∧ wr = w) (fun o i _ => s.size - (intOf i).toNat)
  case atStart => exact ⟨0, [], Nat.zero_le _, rfl, rfl, Nat.le_refl _, QR.start _, rfl⟩
  case round =>
    obtain ⟨k, T, hk, rfl, rfl, hTl, hq, rfl⟩ := hrel
    have hTs : (ba T).size ≤ 4000000000 := by rw [ba_size]; omega
    by_cases hlt : k < s.size
    · have hd := drop_cons s k hlt
      rw [hd] at hq
      have hlt' : (k : Int) < (s.size : Int) := by omega
      have HA := hid (str_app s k hlt T)
      have hb := s[k].toNat_lt
      by_cases h92 : s[k] = 92
      · have e92 : (s[k].toNat : Int) = 92 := by rw [h92]; rfl
        by_cases h1 : k + 1 < s.size
        · have h1' : (k : Int) + 1 < (s.size : Int) := by omega
          have hd1 := drop_cons s (k + 1) h1
          rw [hd1, h92] at hq
          have HQ := hid hq.esc
          have HA1 := hid (str_app s (k + 1) h1 T)
          have h2' : (k : Int) + 1 + 1 ≤ (s.size : Int) := by omega
          clear hq hd hd1 h92
          go_wp2
          go_roundw
          case rel => exact ⟨k + 2, T ++ [s[k + 1]], by omega, by go_num, by rw [← HA1.out], by simp; omega, HQ.out, trivial⟩
          case measure => simp [intOf]; omega
        · have h1' : ¬ (k : Int) + 1 < (s.size : Int) := by omega
          have hd1 : s.data.toList.drop (k + 1) = [] := List.drop_eq_nil_of_le (by simp; omega)
          rw [hd1] at hq
          have HQ := hid (hq.one (by rw [h92]; decide))
          have hwk : (k : Int) + 1 ≤ (s.size : Int) := by omega
          clear hq hd hd1 h92
          go_wp2
          go_roundw
          case rel => exact ⟨k + 1, T ++ [s[k]], by omega, by go_num, by rw [← HA.out], by simp; omega, by rw [show s.data.toList.drop (k + 1) = [] from List.drop_eq_nil_of_le (by simp; omega)]; exact HQ.out, trivial⟩
          case measure => simp [intOf]; omega
      · have e92 : ((s[k].toNat : Int) == 92) = false := by rw [beq_eq_false_iff_ne]; intro e; exact h92 (UInt8.toNat_inj.1 (by show s[k].toNat = 92; omega))
        by_cases h34 : s[k] = 34
        · have e34 : (s[k].toNat : Int) = 34 := by rw [h34]; rfl
          rw [h34] at hq
          obtain ⟨q1, q2⟩ := hq.close
          have HQ1 := hid q1
          have HQ2 := hid q2
          have hwk : (k : Int) + 1 ≤ (s.size : Int) := by omega
          clear hq hd h34 h92 q1 q2
          go_wp2
          go_region
          go_wp2
          go_ret2
          refine ⟨?_, (Below.refl _ _).drew⟩
          rw [HQ2.out, ← HQ1.out]
          have e : s.extract (k + 1) s.size = ba (s.data.toList.drop (k + 1)) := xba (by rw [extract_drop]; rfl)
          rw [← e]
          rfl
        · have e34 : ((s[k].toNat : Int) == 34) = false := by rw [beq_eq_false_iff_ne]; intro e; exact h34 (UInt8.toNat_inj.1 (by show s[k].toNat = 34; omega))
          have hwk : (k : Int) + 1 ≤ (s.size : Int) := by omega
          have HQ := hid (show QR (quo s.data.toList).1 (quo s.data.toList).2 (T ++ [s[k]]) (s.data.toList.drop (k + 1)) by
            cases hr : s.data.toList.drop (k + 1) with
            | nil => rw [hr] at hq; exact hq.one h34
            | cons d r => rw [hr] at hq; exact hq.oth h34 h92)
          clear hq hd h34 h92
          go_wp2
          go_roundw
          case rel => exact ⟨k + 1, T ++ [s[k]], by omega, by go_num, by rw [← HA.out], by simp; omega, HQ.out, trivial⟩
          case measure => simp [intOf]; omega
    · have hd : s.data.toList.drop k = [] := List.drop_eq_nil_of_le (by simp; omega)
      rw [hd] at hq
      obtain ⟨q1, q2⟩ := hq.nil
      have HQ1 := hid q1
      have HQ2 := hid q2
      clear hq hd q1 q2
      go_wp2
      go_ret2
      rw [HQ2.out, ← HQ1.out]
      exact ⟨rfl, Below.refl _ _⟩

end Go.Proofs.YtjmkccnjjofmeaaGreatDoor

namespace Go.Proofs.YtjmkccnjjofmeaaGreatDoor

open Go.RowKit

/-- The block b holds a parameter of the document's own. -/
def TwoR (w : World) (b : Nat) (n v : ByteArray) : Prop := w.heap[b]? = some (.cells #[.string n, .string v] 44 (0, 0))

theorem TwoR.lt {w : World} {b : Nat} {n v : ByteArray} (h : TwoR w b n v) : b < w.heap.size := (Array.getElem?_eq_some_iff.1 h).1

theorem TwoR.range {w : World} {b : Nat} {n v : ByteArray} (h : TwoR w b n v) : w.rangeAt b 0 [.string n, .string v] := fun j u hu => by
  rw [Nat.zero_add, Lib.cell_of_heap h]
  match j, hu with
  | 0, hu => simpa using hu
  | 1, hu => simpa using hu
  | j + 2, hu => simp at hu

theorem TwoR.cells {w : World} {b : Nat} {n v : ByteArray} (h : TwoR w b n v) : w.cell? ⟨b, 0, none⟩ = some (.string n) ∧ w.cell? ⟨b, 1, none⟩ = some (.string v) ∧ w.frozen? ⟨b, 0, none⟩ = false ∧ w.frozen? ⟨b, 1, none⟩ = false :=
  ⟨by rw [Lib.cell_of_heap h]; rfl, by rw [Lib.cell_of_heap h]; rfl, Lib.frozen_of_heap h 0, Lib.frozen_of_heap h 1⟩

theorem TwoR.set {w : World} {b : Nat} {n v n' v' : ByteArray} (h : TwoR w b n v) : TwoR ((w.setCell ⟨b, 0, none⟩ (.string n')).setCell ⟨b, 1, none⟩ (.string v')) b n' v' := by
  have h1 := Lib.heap_setCell_same h (i := 0) (.string n')
  have h2 := Lib.heap_setCell_same h1 (i := 1) (.string v')
  exact h2

theorem TwoR.kept {w w' : World} {b : Nat} {n v : ByteArray} (h : TwoR w b n v) (hb : Below w.heap.size w w') : TwoR w' b n v := (hb.block b h.lt).trans h

theorem results_r3 {fn : Func} {p q r : Tmp} (h : fn.results = #[.cell p 44, .tmp q, .tmp r]) (tmps : Array Value) (w : World) (b : Nat) (n v : ByteArray) (hp : tmps.getD p undef = .pointer (some ⟨b, 0, none⟩)) (hc : w.rangeAt b 0 [.string n, .string v]) : (results fn tmps).run Tryz.prog w = .ok (.tuple #[hdVal n v, tmps.getD q undef, tmps.getD r undef]) w := by
  rw [Array.getD_eq_getD_getElem?] at hp
  simp only [results, h]
  simp [Sem.run_bind, Result.andThen, hp, asAddr, run_loadVar_mid w b 0 44 [.string n, .string v] _ hc Tryz.underlying44 rfl (by kernel_rfl), hdVal]

/-- What the document's own piece tells. -/
def rOkV (l : List UInt8) : Bool := isE (rstP l) && valB6 ((rstP l).drop 1)

def rNV (l : List UInt8) : List UInt8 := if rOkV l then low (namP l) else []

def rVV (l : List UInt8) : List UInt8 := if rOkV l then mvalV ((rstP l).drop 1) else []

set_option maxRecDepth 100000 in
theorem tok_lowC (c : UInt8) : tokC (lowC c) = tokC c := by
  have := byte_all (p := fun c => tokC (lowC c) == tokC c) (by decide) c
  simpa using this

theorem tokL_lowE (l : List UInt8) : tokL (low l) = tokL l := by
  unfold tokL low
  rw [List.all_map, List.isEmpty_map]
  congr 1
  refine congrArg (fun p => l.all p) ?_
  funext c; exact tok_lowC c

theorem step_ref (out : List Hd) (l : List UInt8) : mstepP out l = if (tokL (rNV l) && fitV (rVV l)) && !has6 out (rNV l) then out ++ [⟨rNV l, rVV l⟩] else out := by
  unfold mstepP parB parN parV rNV rVV rOkV
  cases h1 : isE (rstP l) with
  | false => simp [tokL]
  | true =>
    cases h2 : valB6 ((rstP l).drop 1) with
    | false => simp [tokL]
    | true => simp only [Bool.true_and, if_true, tokL_lowE]

theorem nam_at (l : List UInt8) (k : Nat) (hk : k ≤ (tL l).length) (h1 : ∀ x ∈ (tL l).take k, [(59 : UInt8), 61].contains x = false) (h2 : k = (tL l).length ∨ ∃ h : k < (tL l).length, [(59 : UInt8), 61].contains (tL l)[k] = true) : namP l = (tL l).take k ∧ rstP l = (tL l).drop k := by
  have := up_stop [59, 61] ((tL l).take k) ((tL l).drop k) h1 (by
    rcases h2 with rfl | ⟨h, hc⟩
    · left; simp
    · right; exact ⟨_, _, List.drop_eq_getElem_cons h, hc⟩)
  rw [List.take_append_drop] at this
  exact this

theorem upR59 (l : List UInt8) (k : Nat) (h1 : ∀ x ∈ l.take k, [(59 : UInt8), 61].contains x = false) (h2 : l.drop k = [] ∨ (l.drop k).head? = some 59) : upR [59] l = l.drop k := by
  have := up_stop [59] (l.take k) (l.drop k) (fun x hx => by
    have := h1 x hx
    simp at this ⊢
    exact this.1) (by
    rcases h2 with h | h
    · exact .inl h
    · right
      cases hd : l.drop k with
      | nil => rw [hd] at h; cases h
      | cons c r => rw [hd] at h; simp at h; subst h; exact ⟨59, r, rfl, rfl⟩)
  rw [List.take_append_drop] at this
  exact this.2

theorem isQ_pre (l : List UInt8) : Lib.hasPrefix l [34] = isQ l := by
  unfold Lib.hasPrefix isQ
  cases l with
  | nil => rfl
  | cons c r =>
    by_cases h : c = 34
    · subst h; simp [List.isPrefixOf]
    · have h2 : (34 : UInt8) ≠ c := fun e => h e.symm
      simp [List.isPrefixOf, h, h2]
      exact (beq_eq_false_iff_ne.2 h2).trans (beq_eq_false_iff_ne.2 h).symm

def NrPost (l : List UInt8) (w : World) (e : Ending) (w' : World) : Prop := e = .returned (.tuple #[hdVal (ba (rNV l)) (ba (rVV l)), .string (ba ((parR l).drop 1)), .bool (!(parR l).isEmpty)]) ∧ Below w.heap.size w w'

theorem blank_of (c : UInt8) : bl4.contains c = (((c.toNat : Int) == 9) || ((c.toNat : Int) == 10) || ((c.toNat : Int) == 13) || ((c.toNat : Int) == 32)) := by
  have := pE_contains c
  unfold bl4
  rw [this]
  unfold pE endI
  cases ((c.toNat : Int) == 9) <;> cases ((c.toNat : Int) == 10) <;> cases ((c.toNat : Int) == 13) <;> cases ((c.toNat : Int) == 32) <;> rfl

set_option maxHeartbeats 8000000 in
set_option maxRecDepth 100000 in
theorem rparam_any (s : ByteArray) (w : World) (hs : s.size ≤ 1000000000) :
    Calls Tryz.prog 69 #[.string s] w (NrPost s.data.toList w) := by
  have H0 := hid (show TwoR (w.alloc (.cells #[.string ⟨#[]⟩, .string ⟨#[]⟩] 44)) w.heap.size ⟨#[]⟩ ⟨#[]⟩ from heap_alloc_new _ _)
  have HB0 := hid (show Below w.heap.size w (w.alloc (.cells #[.string ⟨#[]⟩, .string ⟨#[]⟩] 44)) from (Below.refl _ w).alloc (Nat.le_refl _) _)
  go_enter Tryz.func69, Tryz.ntmps69
  go_wp2
  generalize (w.alloc (.cells #[.string ⟨#[]⟩, .string ⟨#[]⟩] 44)) = W at *
  go_loop [0] (fun o => ∃ S : ByteArray, o = .string S ∧ S.size ≤ s.size ∧ tL S.data.toList = tL s.data.toList) (fun o => match o with | .string S => S.size | _ => 0)
  case atStart => exact ⟨s, rfl, Nat.le_refl _, rfl⟩
  case round =>
    obtain ⟨S, rfl, hSs, htl⟩ := hrel
    have HTl := hid htl
    clear htl
    by_cases hgo : ∃ h : 0 < S.size, bl4.contains S[0] = true
    · obtain ⟨h0, hbl⟩ := hgo
      have h0' : (0 : Int) < (S.size : Int) := by omega
      have hcs := hbl
      rw [blank_of] at hcs
      have HN := hid (show tL (S.extract 1 S.size).data.toList = tL s.data.toList by
        rw [← HTl.out, ext_from1 S h0]
        unfold tL Lib.trimLeftS
        rw [List.dropWhile_cons_of_pos (by exact hbl)])
      have hsz : (S.extract 1 S.size).size + 1 ≤ S.size := by simp; omega
      clear hbl
      have hw : (((S[0]'h0).toNat : Int) == 9) = true ∨ ((((S[0]'h0).toNat : Int) == 9) = false ∧ (((S[0]'h0).toNat : Int) == 10) = true) ∨ ((((S[0]'h0).toNat : Int) == 9) = false ∧ (((S[0]'h0).toNat : Int) == 10) = false ∧ (((S[0]'h0).toNat : Int) == 13) = true) ∨ ((((S[0]'h0).toNat : Int) == 9) = false ∧ (((S[0]'h0).toNat : Int) == 10) = false ∧ (((S[0]'h0).toNat : Int) == 13) = false ∧ (((S[0]'h0).toNat : Int) == 32) = true) := by
        revert hcs
        cases (((S[0]'h0).toNat : Int) == 9) <;> cases (((S[0]'h0).toNat : Int) == 10) <;> cases (((S[0]'h0).toNat : Int) == 13) <;> cases (((S[0]'h0).toNat : Int) == 32) <;> simp
      clear hcs
      rcases hw with c1 | ⟨c1, c2⟩ | ⟨c1, c2, c3⟩ | ⟨c1, c2, c3, c4⟩
      all_goals
        go_wp2
        go_round
        case rel => exact ⟨S.extract 1 S.size, rfl, by omega, HN.out⟩
        case measure => simp; omega
    · have htS : tL S.data.toList = S.data.toList := by
        rcases Nat.eq_zero_or_pos S.size with h | h
        · have : S.data.toList = [] := List.eq_nil_of_length_eq_zero (by rw [← Lib.size_eq]; exact h)
          rw [this]; rfl
        · rw [ext_from1 S h]
          refine tL_keep ?_
          cases hb : bl4.contains S[0] with
          | false => rfl
          | true => exact absurd ⟨h, hb⟩ hgo
      have HSl := hid (show tL s.data.toList = S.data.toList by rw [← HTl.out]; exact htS)
      have hcs : ¬ (0 : Int) < (S.size : Int) ∨ ∃ h0 : 0 < S.size, (((S[0]'h0).toNat : Int) == 9) = false ∧ (((S[0]'h0).toNat : Int) == 10) = false ∧ (((S[0]'h0).toNat : Int) == 13) = false ∧ (((S[0]'h0).toNat : Int) == 32) = false := by
        rcases Nat.eq_zero_or_pos S.size with h | h
        · exact .inl (by omega)
        · right
          refine ⟨h, ?_⟩
          have hb : bl4.contains S[0] = false := by
            cases hb : bl4.contains S[0] with
            | false => rfl
            | true => exact absurd ⟨h, hb⟩ hgo
          rw [blank_of] at hb
          revert hb
          cases (((S[0]'h).toNat : Int) == 9) <;> cases (((S[0]'h).toNat : Int) == 10) <;> cases (((S[0]'h).toNat : Int) == 13) <;> cases (((S[0]'h).toNat : Int) == 32) <;> simp
      clear hgo htS
      have hsS : S.size ≤ 1000000000 := by omega
      rcases hcs with hc | ⟨h0, c1, c2, c3, c4⟩
      all_goals
        go_wp2
        go_loop [5] (fun i => ∃ k : Nat, k ≤ S.size ∧ i = .int .i64 k ∧ ∀ x ∈ S.data.toList.take k, [(59 : UInt8), 61].contains x = false) (fun i => S.size - (intOf i).toNat)
        case atStart => exact ⟨0, Nat.zero_le _, rfl, by simp⟩
        case round =>
          obtain ⟨k, hk, rfl, hno⟩ := hrel
          have HNo := hid hno
          clear hno
          have hcase : (∃ h : k < S.size, ((S[k].toNat : Int) != 59) = true ∧ ((S[k].toNat : Int) != 61) = true ∧ [(59 : UInt8), 61].contains S[k] = false) ∨ (∃ h : k < S.size, ((S[k].toNat : Int) != 59) = true ∧ S[k] = 61) ∨ (∃ h : k < S.size, S[k] = 59) ∨ k = S.size := by
            by_cases h : k < S.size
            · by_cases h59 : S[k] = 59
              · exact .inr (.inr (.inl ⟨h, h59⟩))
              · by_cases h61 : S[k] = 61
                · exact .inr (.inl ⟨h, byte_bne (a := S[k]) (b := 59) h59, h61⟩)
                · exact .inl ⟨h, byte_bne (a := S[k]) (b := 59) h59, byte_bne (a := S[k]) (b := 61) h61, by simp [h59, h61]⟩
            · exact .inr (.inr (.inr (by omega)))
          rcases hcase with ⟨hlt, b1, b2, hb3⟩ | hcase
          · have hlt' : (k : Int) < (S.size : Int) := by omega
            have HN2 := hid (show ∀ x ∈ S.data.toList.take (k + 1), [(59 : UInt8), 61].contains x = false by
              intro x hx
              rw [take_snoc S k hlt] at hx
              rcases List.mem_append.1 hx with h | h
              · exact HNo.out x h
              · rw [List.mem_singleton.1 h]; exact hb3)
            clear hb3
            go_wp2
            go_round
            case rel => exact ⟨k + 1, by omega, by go_num, HN2.out⟩
            case measure => simp [intOf]; omega
          · have hnm := nam_at s.data.toList k (by rw [HSl.out, ← Lib.size_eq]; exact hk) (by rw [HSl.out]; exact HNo.out) (by
              rw [HSl.out]
              rcases hcase with ⟨h, _, e⟩ | ⟨h, e⟩ | h
              · exact .inr ⟨by simpa using h, by show [(59 : UInt8), 61].contains S[k] = true; rw [e]; rfl⟩
              · exact .inr ⟨by simpa using h, by show [(59 : UInt8), 61].contains S[k] = true; rw [e]; rfl⟩
              · exact .inl (by rw [h]; simp))
            rw [HSl.out] at hnm
            obtain ⟨N, hN⟩ : ∃ N, S.extract 0 k = N := ⟨_, rfl⟩
            have hNl : N.data.toList = namP s.data.toList := by rw [hnm.1, ← hN, Lib.extract_data]; simp
            have hNs : N.size ≤ 1000000000 := by rw [← hN]; simp; omega
            have HLw : Hid (∀ w : World, Calls Tryz.prog 35 #[.string N] w fun e w' => e = .returned (.string (ba (low (namP s.data.toList)))) ∧ Below w.heap.size w w') := fun w => by
              rw [← hNl]; exact rlower_any N w (by omega)
            have HRs := hid hnm.2
            have HNe := hid hN
            have hk' : (k : Int) ≤ (S.size : Int) := by omega
            have hk0 : k ≤ S.size := hk
            clear hnm hNl hN
            rcases hcase with hcase | hcase
            · -- behind the name stands '='
              obtain ⟨hlt, b1, e61⟩ := hcase
              all_goals try (exfalso; omega)
              all_goals
                have hlt' : (k : Int) < (S.size : Int) := by omega
                have b2 : (S[k].toNat : Int) = 61 := by rw [e61]; rfl
                have hke : ((k : Int) == (S.size : Int)) = false := by rw [beq_eq_false_iff_ne]; omega
                have hE : isE (rstP s.data.toList) = true := by unfold isE; rw [HRs.out, drop_cons S k hlt, e61]; rfl
                have hk1 : (k : Int) + 1 ≤ (S.size : Int) := by omega
                obtain ⟨D, hD⟩ : ∃ D, S.extract (k + 1) S.size = D := ⟨_, rfl⟩
                have hDl : (rstP s.data.toList).drop 1 = D.data.toList := by rw [HRs.out, ← hD, extract_drop, List.drop_drop]
                have hDs : D.size ≤ 1000000000 := by rw [← hD]; simp; omega
                have HRN := hid (show rNV s.data.toList = if valB6 D.data.toList then low (namP s.data.toList) else [] by unfold rNV rOkV; rw [hE, hDl, Bool.true_and])
                have HRV := hid (show rVV s.data.toList = if valB6 D.data.toList then mvalV D.data.toList else [] by unfold rVV rOkV; rw [hE, hDl, Bool.true_and])
                have HPR := hid (show parR s.data.toList = valR D.data.toList by unfold parR; rw [hE, hDl]; rfl)
                have HDe := hid hD
                clear hE hDl hD e61
                obtain ⟨q, hq⟩ : ∃ q, isQ D.data.toList = q := ⟨_, rfl⟩
                have HBg : Hid (∀ w : World, Calls Tryz.prog 37 #[.string D, .string ⟨#[34]⟩] w fun e w' => e = .returned (.bool q) ∧ w = w') := fun w => by
                  have := begins_any D ⟨#[34]⟩ w (by omega) (by decide)
                  rw [show (⟨#[34]⟩ : ByteArray).data.toList = [34] from rfl, isQ_pre, hq] at this
                  exact this
                cases q with
                | true =>
                  have hd0 : 0 < D.size := by
                    rcases Nat.eq_zero_or_pos D.size with h | h
                    · have : D.data.toList = [] := List.eq_nil_of_length_eq_zero (by rw [← Lib.size_eq]; exact h)
                      rw [this] at hq; simp [isQ] at hq
                    · exact h
                  have hd1 : (1 : Int) ≤ (D.size : Int) := by omega
                  obtain ⟨G, hG⟩ : ∃ G, D.extract 1 D.size = G := ⟨_, rfl⟩
                  have hGl : D.data.toList.drop 1 = G.data.toList := by rw [← hG, extract_drop]
                  have hGs : G.size ≤ 1000000000 := by rw [← hG]; simp; omega
                  have hql := quo_len _ G.data.toList (Nat.le_refl _)
                  rw [← Lib.size_eq] at hql
                  obtain ⟨V, hV⟩ : ∃ V, ba (quo G.data.toList).1 = V := ⟨_, rfl⟩
                  obtain ⟨Z, hZ⟩ : ∃ Z, ba (quo G.data.toList).2 = Z := ⟨_, rfl⟩
                  have hZs : Z.size ≤ 1000000000 := by rw [← hZ, ba_size]; omega
                  have HQu : Hid (∀ w : World, Calls Tryz.prog 103 #[.string G] w fun e w' => e = .returned (.tuple #[.string V, .string Z]) ∧ Below w.heap.size w w') := fun w => by
                    rw [← hV, ← hZ]; exact rquoted_any G w (by omega)
                  have HA1 := hid (show ba (rNV s.data.toList) = ba (low (namP s.data.toList)) by rw [HRN.out]; unfold valB6; rw [hq]; rfl)
                  have HA2 := hid (show ba (rVV s.data.toList) = V by rw [HRV.out]; unfold valB6 mvalV; rw [hq, hGl]; exact hV)
                  have HA3 := hid (show parR s.data.toList = upR [59] Z.data.toList by rw [HPR.out]; unfold valR; rw [hq, hGl, ← hZ]; rfl)
                  have HGe := hid hG
                  clear hq hG hGl hql hV hZ HRN HRV HPR
                  go_wp2_with fail
                  rw [HNe.out]
                  refine (HLw.out _).mono ?_
                  rintro e w1 ⟨rfl, hb1⟩
                  go_wp2_with fail
                  rw [HDe.out]
                  refine (HBg.out _).mono ?_
                  rintro e w2 ⟨rfl, rfl⟩
                  go_wp2_with fail
                  rw [HGe.out]
                  refine (HQu.out _).mono ?_
                  rintro e w3 ⟨rfl, hb3⟩
                  go_wp2_with fail
                  refine (rpart6_any Z 59 _ (by omega)).mono ?_
                  rintro e w4 ⟨rfl, hb4⟩
                  have HB4 := hid (belowT (belowT (belowT HB0.out hb1) hb3) hb4)
                  have HT4 := hid (((H0.out.kept hb1).kept hb3).kept hb4)
                  obtain ⟨c0, c1', g0, g1⟩ := HT4.out.cells
                  clear hb1 hb3 hb4
                  go_wp2
                  refine bodyPost_ret (results_r3 rfl _ _ w.heap.size (ba (low (namP s.data.toList))) V rfl HT4.out.set.range) rfl ⟨?_, (HB4.out.setCell (p := ⟨w.heap.size, 0, none⟩) (Nat.le_refl _) _).setCell (p := ⟨w.heap.size, 1, none⟩) (Nat.le_refl _) _⟩
                  rw [HA1.out, HA2.out, HA3.out, List.drop_one]; rfl
                | false =>
                  have hul := upA_le [59] D.data.toList
                  rw [← Lib.size_eq] at hul
                  obtain ⟨A, hA⟩ : ∃ A, ba (upA [59] D.data.toList) = A := ⟨_, rfl⟩
                  have hAl : A.data.toList = upA [59] D.data.toList := by rw [← hA]; rfl
                  have hAs : A.size ≤ 1000000000 := by rw [← hA, ba_size]; omega
                  obtain ⟨V, hV⟩ : ∃ V, ba (tR A.data.toList) = V := ⟨_, rfl⟩
                  have HBk : Hid (∀ w : World, Calls Tryz.prog 67 #[.string A] w fun e w' => e = .returned (.string V) ∧ w = w') := fun w => by
                    rw [← hV]; exact rback_any A w (by omega)
                  have HPt : Hid (∀ w : World, Calls Tryz.prog 31 #[.string D, .int .u8 59] w fun e w' => e = .returned (.tuple #[.string A, .string (ba ((upR [59] D.data.toList).drop 1)), .bool (!(upR [59] D.data.toList).isEmpty)]) ∧ Below w.heap.size w w') := fun w => by
                    rw [← hA]; exact rpart6_any D 59 w (by omega)
                  have HA3 := hid (show parR s.data.toList = upR [59] D.data.toList by rw [HPR.out]; unfold valR; rw [hq]; rfl)
                  have hvb : valB6 D.data.toList = !(tR A.data.toList).isEmpty := by unfold valB6; rw [hq, hAl]; rfl
                  have hvv : mvalV D.data.toList = tR A.data.toList := by unfold mvalV; rw [hq, hAl]; rfl
                  rw [hvb] at HRN HRV
                  rw [hvv] at HRV
                  by_cases hem : tR A.data.toList = []
                  · have hVe : V = ⟨#[]⟩ := by rw [← hV, hem]; rfl
                    have HA1 := hid (show ba (rNV s.data.toList) = ⟨#[]⟩ by rw [HRN.out, hem]; rfl)
                    have HA2 := hid (show ba (rVV s.data.toList) = ⟨#[]⟩ by rw [HRV.out, hem]; rfl)
                    subst hVe
                    clear hq hul hA hAl hV HRN HRV HPR hvb hvv hem
                    go_wp2_with fail
                    rw [HNe.out]
                    refine (HLw.out _).mono ?_
                    rintro e w1 ⟨rfl, hb1⟩
                    go_wp2_with fail
                    rw [HDe.out]
                    refine (HBg.out _).mono ?_
                    rintro e w2 ⟨rfl, rfl⟩
                    go_wp2_with fail
                    refine (HPt.out _).mono ?_
                    rintro e w3 ⟨rfl, hb3⟩
                    go_wp2_with fail
                    refine (HBk.out _).mono ?_
                    rintro e w4 ⟨rfl, rfl⟩
                    have HB4 := hid (belowT (belowT HB0.out hb1) hb3)
                    have HT4 := hid ((H0.out.kept hb1).kept hb3)
                    obtain ⟨c0, c1', g0, g1⟩ := HT4.out.cells
                    clear hb1 hb3
                    go_wp2
                    refine bodyPost_ret (results_r3 rfl _ _ w.heap.size ⟨#[]⟩ ⟨#[]⟩ rfl HT4.out.set.range) rfl ⟨?_, (HB4.out.setCell (p := ⟨w.heap.size, 0, none⟩) (Nat.le_refl _) _).setCell (p := ⟨w.heap.size, 1, none⟩) (Nat.le_refl _) _⟩
                    rw [HA1.out, HA2.out, HA3.out, List.drop_one]; rfl
                  · have hVe : V.toList.isEmpty = false := by rw [← hV]; exact xempty_no _ hem
                    have hnb : (!(tR A.data.toList).isEmpty) = true := by
                      cases h : tR A.data.toList with
                      | nil => exact absurd h hem
                      | cons => rfl
                    have HA1 := hid (show ba (rNV s.data.toList) = ba (low (namP s.data.toList)) by rw [HRN.out, hnb]; rfl)
                    have HA2 := hid (show ba (rVV s.data.toList) = V by rw [HRV.out, hnb]; exact hV)
                    clear hq hul hA hAl hV HRN HRV HPR hvb hvv hem hnb
                    go_wp2_with fail
                    rw [HNe.out]
                    refine (HLw.out _).mono ?_
                    rintro e w1 ⟨rfl, hb1⟩
                    go_wp2_with fail
                    rw [HDe.out]
                    refine (HBg.out _).mono ?_
                    rintro e w2 ⟨rfl, rfl⟩
                    go_wp2_with fail
                    refine (HPt.out _).mono ?_
                    rintro e w3 ⟨rfl, hb3⟩
                    go_wp2_with fail
                    refine (HBk.out _).mono ?_
                    rintro e w4 ⟨rfl, rfl⟩
                    have HB4 := hid (belowT (belowT HB0.out hb1) hb3)
                    have HT4 := hid ((H0.out.kept hb1).kept hb3)
                    obtain ⟨c0, c1', g0, g1⟩ := HT4.out.cells
                    clear hb1 hb3
                    go_wp2
                    refine bodyPost_ret (results_r3 rfl _ _ w.heap.size (ba (low (namP s.data.toList))) V rfl HT4.out.set.range) rfl ⟨?_, (HB4.out.setCell (p := ⟨w.heap.size, 0, none⟩) (Nat.le_refl _) _).setCell (p := ⟨w.heap.size, 1, none⟩) (Nat.le_refl _) _⟩
                    rw [HA1.out, HA2.out, HA3.out, List.drop_one]; rfl
            · -- nothing, or a semicolon
              have hE : isE (rstP s.data.toList) = false := by
                unfold isE; rw [HRs.out]
                rcases hcase with ⟨h, e⟩ | h
                · rw [drop_cons S k h, e]; rfl
                · rw [List.drop_eq_nil_of_le (by simp; omega)]; rfl
              have HUp := hid (show parR s.data.toList = upR [59] S.data.toList by
                unfold parR; rw [hE]
                show rstP s.data.toList = _
                rw [HRs.out, upR59 S.data.toList k HNo.out]
                rcases hcase with ⟨h, e⟩ | h
                · right; rw [drop_cons S k h, e]; rfl
                · left; exact List.drop_eq_nil_of_le (by simp; omega))
              have HA1 := hid (show ba (rNV s.data.toList) = ⟨#[]⟩ by unfold rNV rOkV; rw [hE]; rfl)
              have HA2 := hid (show ba (rVV s.data.toList) = ⟨#[]⟩ by unfold rVV rOkV; rw [hE]; rfl)
              clear hE
              have hgo : (∃ h : k < S.size, ((S[k].toNat : Int) != 59) = false ∧ ((S[k].toNat : Int) == 59) = true ∧ ((k : Int) == (S.size : Int)) = false) ∨ (¬ (k : Int) < (S.size : Int) ∧ ((k : Int) == (S.size : Int)) = true) := by
                rcases hcase with ⟨h, e⟩ | h
                · exact .inl ⟨h, by rw [e]; rfl, by rw [e]; rfl, by rw [beq_eq_false_iff_ne]; omega⟩
                · exact .inr ⟨by omega, by rw [h]; simp⟩
              clear hcase
              rcases hgo with ⟨hlt, b1, b2, b3⟩ | ⟨b1, b3⟩
              all_goals try (exfalso; omega)
              all_goals
                go_wp2_with fail
                rw [HNe.out]
                refine (HLw.out _).mono ?_
                rintro e w1 ⟨rfl, hb1⟩
                go_wp2_with fail
                refine (rpart6_any S 59 _ (by omega)).mono ?_
                rintro e w3 ⟨rfl, hb3⟩
                have HB4 := hid (belowT (belowT HB0.out hb1) hb3)
                have HT4 := hid ((H0.out.kept hb1).kept hb3)
                obtain ⟨c0, c1', g0, g1⟩ := HT4.out.cells
                clear hb1 hb3
                go_wp2
                refine bodyPost_ret (results_r3 rfl _ _ w.heap.size ⟨#[]⟩ ⟨#[]⟩ rfl HT4.out.set.range) rfl ⟨?_, (HB4.out.setCell (p := ⟨w.heap.size, 0, none⟩) (Nat.le_refl _) _).setCell (p := ⟨w.heap.size, 1, none⟩) (Nat.le_refl _) _⟩
                rw [HA1.out, HA2.out, HUp.out, List.drop_one]; rfl

end Go.Proofs.YtjmkccnjjofmeaaGreatDoor

namespace Go.Proofs.YtjmkccnjjofmeaaGreatDoor

open Go.RowKit

/-- The block p holds a kind of the document's own. -/
def TriR (w : World) (p : Nat) (a m : ByteArray) (v : Value) : Prop := w.heap[p]? = some (.cells #[.string a, .string m, v] 39 (0, 0))

theorem TriR.lt {w : World} {p : Nat} {a m : ByteArray} {v : Value} (h : TriR w p a m v) : p < w.heap.size := (Array.getElem?_eq_some_iff.1 h).1

theorem TriR.range {w : World} {p : Nat} {a m : ByteArray} {v : Value} (h : TriR w p a m v) : w.rangeAt p 0 [.string a, .string m, v] := fun j u hu => by
  rw [Nat.zero_add, Lib.cell_of_heap h]
  match j, hu with
  | 0, hu => simpa using hu
  | 1, hu => simpa using hu
  | 2, hu => simpa using hu
  | j + 3, hu => simp at hu

theorem TriR.cells {w : World} {p : Nat} {a m : ByteArray} {v : Value} (h : TriR w p a m v) : w.cell? ⟨p, 0, none⟩ = some (.string a) ∧ w.cell? ⟨p, 1, none⟩ = some (.string m) ∧ w.cell? ⟨p, 2, none⟩ = some v :=
  ⟨by rw [Lib.cell_of_heap h]; rfl, by rw [Lib.cell_of_heap h]; rfl, by rw [Lib.cell_of_heap h]; rfl⟩

theorem TriR.frozen {w : World} {p : Nat} {a m : ByteArray} {v : Value} (h : TriR w p a m v) (j : Nat) : w.frozen? ⟨p, j, none⟩ = false := Lib.frozen_of_heap h j

theorem TriR.set {w : World} {p : Nat} {a m a' m' : ByteArray} {v v' : Value} (h : TriR w p a m v) : TriR (((w.setCell ⟨p, 0, none⟩ (.string a')).setCell ⟨p, 1, none⟩ (.string m')).setCell ⟨p, 2, none⟩ v') p a' m' v' := by
  have h1 := Lib.heap_setCell_same h (i := 0) (.string a')
  have h2 := Lib.heap_setCell_same h1 (i := 1) (.string m')
  exact Lib.heap_setCell_same h2 (i := 2) v'

theorem TriR.kept {w w' : World} {p : Nat} {a m : ByteArray} {v : Value} (h : TriR w p a m v) (hb : Below w.heap.size w w') : TriR w' p a m v := (hb.block p h.lt).trans h

theorem TriR.but {w w' : World} {p c : Nat} {a m : ByteArray} {v : Value} (h : TriR w p a m v) (hb : But c w w') (hne : p ≠ c) : TriR w' p a m v := (hb.block p h.lt hne).trans h

theorem results_q2 {fn : Func} {p q : Tmp} (h : fn.results = #[.cell p 39, .tmp q]) (tmps : Array Value) (w : World) (b : Nat) (x y : ByteArray) (v : Value) (hp : tmps.getD p undef = .pointer (some ⟨b, 0, none⟩)) (hc : w.rangeAt b 0 [.string x, .string y, v]) : (results fn tmps).run Tryz.prog w = .ok (.tuple #[knVal x y v, tmps.getD q undef]) w := by
  rw [Array.getD_eq_getD_getElem?] at hp
  simp only [results, h]
  simp [Sem.run_bind, Result.andThen, hp, asAddr, run_loadVar_mid w b 0 39 [.string x, .string y, v] _ hc Tryz.underlying39 rfl (by kernel_rfl), knVal]

theorem TriR.set2 {w : World} {p : Nat} {a m : ByteArray} {v : Value} (h : TriR w p a m v) (v' : Value) : TriR (w.setCell ⟨p, 2, none⟩ v') p a m v' := Lib.heap_setCell_same h (i := 2) v'

theorem infoPr : (Tryz.prog.info? 44).map (fun i => (i.zero, i.size, i.bytes)) = some (some (.agg #[.string ByteArray.empty, .string ByteArray.empty]), 2, 32) := by kernel_rfl

theorem own_triR {w : World} {B n p : Nat} {v u : Value} {a m : ByteArray} {xs : List Value} (h : w.ownsRow B 44 2 v n xs) (ht : TriR w p a m u) : v.ownBlock ≠ some p := fun e => by
  rcases h.2 with ⟨hv, _⟩ | ⟨g, cap, cur, hv, _, hrow, _⟩
  · subst hv; cases e
  · subst hv
    cases e
    unfold TriR at ht
    rw [hrow] at ht
    simp at ht

theorem cut_up (l : List UInt8) (c : UInt8) : (Lib.cut l [c]).1 = upA [c] l ∧ (Lib.cut l [c]).2.1 = (upR [c] l).drop 1 := by
  rcases split6 c l with h | ⟨a, r, h, rfl⟩
  · have hu := up_stop [c] l [] (fun x hx => by
      simp only [List.contains_eq_mem, List.mem_singleton, decide_eq_false_iff_not]
      rintro rfl; exact h hx) (.inl rfl)
    rw [List.append_nil] at hu
    rw [xcut_none l c h, hu.1, hu.2]; exact ⟨rfl, rfl⟩
  · have hu := up_stop [c] a (c :: r) (fun x hx => by
      simp only [List.contains_eq_mem, List.mem_singleton, decide_eq_false_iff_not]
      rintro rfl; exact h hx) (.inr ⟨c, r, rfl, by simp⟩)
    rw [xcut_some a r c h, hu.1, hu.2]; exact ⟨rfl, rfl⟩

/-- What is left, as a text. -/
def leftL (m : Bool) (l : List UInt8) : List UInt8 := if m then 59 :: l else []

theorem left_of (l : List UInt8) (h : l = [] ∨ l.head? = some 59) : leftL (!l.isEmpty) (l.drop 1) = l := by
  cases l with
  | nil => rfl
  | cons c r =>
    rcases h with h | h
    · cases h
    · simp at h; subst h; rfl

theorem upR_59 (l : List UInt8) : upR [59] l = [] ∨ (upR [59] l).head? = some 59 := by
  cases h : upR [59] l with
  | nil => exact .inl rfl
  | cons c r =>
    right
    have := upR_head [59] l c (by rw [h]; rfl)
    simp at this
    rw [this]; rfl

theorem parR_59 (l : List UInt8) : parR l = [] ∨ (parR l).head? = some 59 := by
  unfold parR
  split
  · unfold valR
    split <;> exact upR_59 _
  · rename_i hE
    cases h : rstP l with
    | nil => exact .inl rfl
    | cons c r =>
      right
      have := upR_head [59, 61] (tL l) c (by show (rstP l).head? = _; rw [h]; rfl)
      simp at this
      rcases this with rfl | rfl
      · rfl
      · exfalso; apply hE; unfold isE; rw [h]; rfl

theorem prm_left (out : List Hd) (l : List UInt8) : prm out (leftL true l) = prm (mstepP out l) (leftL (!(parR l).isEmpty) ((parR l).drop 1)) := by
  rw [left_of _ (parR_59 l)]
  exact prm_step out (59 :: l) rfl

theorem prm_done (out : List Hd) (l : List UInt8) : prm out (leftL false l) = out := prm_end out [] rfl

theorem has6_step (out : List Hd) (n : List UInt8) (k : Nat) (h : k < out.length) : has6 (out.take (k + 1)) n = (has6 (out.take k) n || (out[k].name == n)) := by
  rw [List.take_succ_eq_append_getElem h, has6_app]; simp [has6]

theorem left_len (l : List UInt8) : (leftL (!(parR l).isEmpty) ((parR l).drop 1)).length ≤ l.length := by
  rw [left_of _ (parR_59 l)]; exact parR_le l

def KrPost (s : List UInt8) (w : World) (e : Ending) (w' : World) : Prop :=
  ∃ v, e = .returned (.tuple #[knVal (ba (knV s).major) (ba (knV s).minor) v, .bool (knOk s)]) ∧ w'.ownsRow w.heap.size 44 2 v (knV s).params.length (cellsH (knV s).params) ∧ Below w.heap.size w w'

set_option maxHeartbeats 8000000 in
set_option maxRecDepth 100000 in
theorem rparse6_any (s : ByteArray) (w : World) (hs : s.size ≤ 1000000) :
    Calls Tryz.prog 38 #[.string s] w (KrPost s.data.toList w) := by
  obtain ⟨i0, hi, hz0, hz1, hz2⟩ := info3 infoPr
  have H0 := hid (show TriR (w.alloc (.cells #[.string ⟨#[]⟩, .string ⟨#[]⟩, .slice none 0 0] 39)) w.heap.size ⟨#[]⟩ ⟨#[]⟩ (.slice none 0 0) from heap_alloc_new _ _)
  have HB0 := hid (show Below w.heap.size w (w.alloc (.cells #[.string ⟨#[]⟩, .string ⟨#[]⟩, .slice none 0 0] 39)) from (Below.refl _ w).alloc (Nat.le_refl _) _)
  have hbl := tB_le s.data.toList
  rw [← Lib.size_eq] at hbl
  obtain ⟨T, hT⟩ : ∃ T, ba (tB s.data.toList) = T := ⟨_, rfl⟩
  have hTl : T.data.toList = tB s.data.toList := by rw [← hT]; rfl
  have hTs : T.size ≤ 1000000 := by rw [Lib.size_eq, hTl]; omega
  have hcu := cut_up (tB s.data.toList) 47
  have hcl := cut6_le (tB s.data.toList) 47
  obtain ⟨M, hM⟩ : ∃ M, ba (mjr s.data.toList) = M := ⟨_, rfl⟩
  obtain ⟨H, hH⟩ : ∃ H, ba (bhn s.data.toList) = H := ⟨_, rfl⟩
  obtain ⟨cb, hcb⟩ : ∃ cb, (!(upR [47] (tB s.data.toList)).isEmpty) = cb := ⟨_, rfl⟩
  have hMl : M.data.toList = mjr s.data.toList := by rw [← hM]; rfl
  have hHl : H.data.toList = bhn s.data.toList := by rw [← hH]; rfl
  have hMs : M.size ≤ 1000000 := by rw [Lib.size_eq, hMl]; unfold mjr; omega
  have hHs : H.size ≤ 1000000 := by rw [Lib.size_eq, hHl]; unfold bhn; omega
  have HTr : Hid (∀ w : World, Calls Tryz.prog 66 #[.string s, .bool false] w fun e w' => e = .returned (.string T) ∧ w = w') := fun w => by
    rw [← hT]; exact rtrim_any s w (by omega)
  have HP1 : Hid (∀ w : World, Calls Tryz.prog 31 #[.string T, .int .u8 47] w fun e w' => e = .returned (.tuple #[.string M, .string H, .bool cb]) ∧ Below w.heap.size w w') := fun w => by
    have := rpart6_any T 47 w (by omega)
    rw [hTl, ← hcu.1, ← hcu.2, hcb] at this
    rw [← hM, ← hH]; exact this
  obtain ⟨A, hA⟩ : ∃ A, ba (upA [59] H.data.toList) = A := ⟨_, rfl⟩
  have hAl : A.data.toList = upA [59] H.data.toList := by rw [← hA]; rfl
  have hul := upA_le [59] H.data.toList
  have hrl := upR_le [59] H.data.toList
  rw [← Lib.size_eq] at hul hrl
  have hAs : A.size ≤ 1000000 := by rw [Lib.size_eq, hAl]; omega
  obtain ⟨Z, hZ⟩ : ∃ Z, ba ((upR [59] H.data.toList).drop 1) = Z := ⟨_, rfl⟩
  obtain ⟨mo, hmo⟩ : ∃ b, (!(upR [59] H.data.toList).isEmpty) = b := ⟨_, rfl⟩
  have hZl : Z.data.toList = (upR [59] H.data.toList).drop 1 := by rw [← hZ]; rfl
  have hZs : Z.size ≤ 1000000 := by rw [Lib.size_eq, hZl, List.length_drop]; omega
  have HLf := hid (show leftL mo Z.data.toList = upR [59] (bhn s.data.toList) by rw [hZl, ← hmo, left_of _ (upR_59 _), hHl])
  have HP2 : Hid (∀ w : World, Calls Tryz.prog 31 #[.string H, .int .u8 59] w fun e w' => e = .returned (.tuple #[.string A, .string Z, .bool mo]) ∧ Below w.heap.size w w') := fun w => by
    have := rpart6_any H 59 w (by omega)
    rw [hmo] at this
    rw [← hA, ← hZ]; exact this
  have htl := tR_le A.data.toList
  rw [← Lib.size_eq] at htl
  obtain ⟨N, hN⟩ : ∃ N, ba (tR A.data.toList) = N := ⟨_, rfl⟩
  have hNl : N.data.toList = mnr s.data.toList := by rw [← hN, hAl, hHl]; rfl
  have hNs : N.size ≤ 1000000 := by rw [← hN, ba_size]; omega
  have HBk : Hid (∀ w : World, Calls Tryz.prog 67 #[.string A] w fun e w' => e = .returned (.string N) ∧ w = w') := fun w => by
    rw [← hN]; exact rback_any A w (by omega)
  obtain ⟨t1, ht1⟩ : ∃ t, tokL M.data.toList = t := ⟨_, rfl⟩
  obtain ⟨t2, ht2⟩ : ∃ t, tokL N.data.toList = t := ⟨_, rfl⟩
  have HT1 : Hid (∀ w : World, Calls Tryz.prog 68 #[.string M] w fun e w' => e = .returned (.bool t1) ∧ w = w') := fun w => by
    rw [← ht1]; exact rtoken_any M w (by omega)
  have HT2 : Hid (∀ w : World, Calls Tryz.prog 68 #[.string N] w fun e w' => e = .returned (.bool t2) ∧ w = w') := fun w => by
    rw [← ht2]; exact rtoken_any N w (by omega)
  have hok : knOk s.data.toList = (t1 && t2) := by unfold knOk; rw [← hMl, ← hNl, ht1, ht2]
  have hcb2 : cb = false → t2 = false := by
    intro h
    rw [← ht2, hNl]
    have : bhn s.data.toList = [] := by
      unfold bhn; rw [hcu.2]
      rw [← hcb] at h
      cases hu : upR [47] (tB s.data.toList) with
      | nil => rfl
      | cons c r => rw [hu] at h; cases h
    unfold mnr; rw [this]; rfl
  have HOk := hid hok
  have HMl := hid hMl
  have HNl := hid hNl
  clear hbl hT hTl hcu hcl hM hH hcb hMl hHl hA hAl hul hrl hZ hmo hZl htl hN hNl ht1 ht2 hok
  go_enter Tryz.func38, Tryz.ntmps38
  go_wp2_with fail
  generalize (w.alloc (.cells #[.string ⟨#[]⟩, .string ⟨#[]⟩, .slice none 0 0] 39)) = W at *
  refine (HTr.out _).mono ?_
  rintro e w' ⟨rfl, rfl⟩
  go_wp2_with fail
  refine (HP1.out _).mono ?_
  rintro e w1 ⟨rfl, hb1⟩
  go_wp2_with fail
  refine (HP2.out _).mono ?_
  rintro e w2 ⟨rfl, hb2⟩
  have HB2 := hid (belowT (belowT HB0.out hb1) hb2)
  have HR2 := hid ((H0.out.kept hb1).kept hb2)
  clear hb1 hb2
  go_wp2_with fail
  refine (HBk.out _).mono ?_
  rintro e w' ⟨rfl, rfl⟩
  have hfin : (cb = true ∧ t1 = true ∧ t2 = true) ∨ ((t1 && t2) = false ∧ (cb = false ∨ (cb = true ∧ t1 = false) ∨ (cb = true ∧ t1 = true ∧ t2 = false))) := by
    revert hcb2; cases cb <;> cases t1 <;> cases t2 <;> simp
  clear hcb2
  rcases hfin with ⟨rfl, rfl, rfl⟩ | ⟨hf, hcs⟩
  · have HKV := hid (show knV s.data.toList = ⟨low M.data.toList, low N.data.toList, prm [] (leftL mo Z.data.toList)⟩ by unfold knV; rw [HOk.out, Bool.and_self, if_pos rfl, HMl.out, HNl.out, HLf.out])
    go_wp2_with fail
    refine (HT1.out _).mono ?_
    rintro e w' ⟨rfl, rfl⟩
    go_wp2_with fail
    refine (HT2.out _).mono ?_
    rintro e w' ⟨rfl, rfl⟩
    go_wp2_with fail
    refine (rlower_any M _ (by omega)).mono ?_
    rintro e w3 ⟨rfl, hb3⟩
    go_wp2_with fail
    refine (rlower_any N _ (by omega)).mono ?_
    rintro e w4 ⟨rfl, hb4⟩
    have HB4 := hid (belowT (belowT HB2.out hb3) hb4)
    have HR4 := hid ((HR2.out.kept hb3).kept hb4)
    clear hb3 hb4
    have HRa := hid (HR4.out.kept ((Below.refl _ w4).alloc (Nat.le_refl _) (.cells #[.string ⟨(low M.data.toList).toArray⟩, .string ⟨(low N.data.toList).toArray⟩, .slice none 0 0] 39)))
    have HTa := hid (show TriR (w4.alloc (.cells #[.string ⟨(low M.data.toList).toArray⟩, .string ⟨(low N.data.toList).toArray⟩, .slice none 0 0] 39)) w4.heap.size (ba (low M.data.toList)) (ba (low N.data.toList)) (.slice none 0 0) from heap_alloc_new _ _)
    have HBa := hid (HB4.out.alloc HB4.out.size (.cells #[.string ⟨(low M.data.toList).toArray⟩, .string ⟨(low N.data.toList).toArray⟩, .slice none 0 0] 39))
    have hlt4 := HR4.out.lt
    go_wp2
    generalize (w4.alloc (.cells #[.string ⟨(low M.data.toList).toArray⟩, .string ⟨(low N.data.toList).toArray⟩, .slice none 0 0] 39)) = W4 at *
    have hW4 := HTa.out.lt
    generalize w4.heap.size = tb at *
    obtain ⟨MA, hMA⟩ : ∃ x, ba (low M.data.toList) = x := ⟨_, rfl⟩
    obtain ⟨MI, hMI⟩ : ∃ x, ba (low N.data.toList) = x := ⟨_, rfl⟩
    rw [hMA, hMI] at HTa
    have HMA := hid hMA
    have HMI := hid hMI
    have hm0 : (leftL mo Z.data.toList).length ≤ 1000001 := by unfold leftL; split <;> simp <;> omega
    clear hMA hMI
    go_loopw [8, 9] (fun l mm wr => ∃ (L : ByteArray) (m : Bool) (out : List Hd) (v : Value), l = .string L ∧ mm = .bool m ∧ L.size ≤ 1000000 ∧ out.length + (leftL m L.data.toList).length ≤ 1000001 ∧ TriR wr tb MA MI v ∧ wr.ownsRow (tb + 1) 44 2 v out.length (cellsH out) ∧ prm out (leftL m L.data.toList) = prm [] (leftL mo Z.data.toList) ∧ TriR wr w.heap.size ⟨#[]⟩ ⟨#[]⟩ (.slice none 0 0) ∧ Below w.heap.size w wr ∧ tb + 1 ≤ wr.heap.size)
      (fun l mm _ => match l, mm with | .string L, .bool true => L.size + 1 | _, _ => 0)
    case atStart => exact ⟨Z, mo, [], .slice none 0 0, rfl, rfl, hZs, by simpa using hm0, HTa.out, World.ownsRow_nil _ _ _ _, rfl, HRa.out, HBa.out, by omega⟩
    case round =>
      obtain ⟨L, m, out, v, rfl, rfl, hLs, hol, hTr, hown, hpr, hR, hbw, hsz⟩ := hrel
      obtain ⟨v1, v2, v3, rfl⟩ := own_slice hown
      have HTr' := hid hTr
      have HO := hid hown
      have HPr := hid hpr
      have HR := hid hR
      have HBw := hid hbw
      clear hTr hown hpr hR hbw
      cases m with
      | false =>
        have HE := hid (show out = prm [] (leftL mo Z.data.toList) by rw [← HPr.out, prm_done])
        obtain ⟨x0, x1, x2⟩ := HTr'.out.cells
        obtain ⟨y0, y1, y2⟩ := HR.out.cells
        have f0 := HR.out.frozen 0
        have f1 := HR.out.frozen 1
        have f2 := HR.out.frozen 2
        go_wp2
        refine bodyPost_ret (results_q2 rfl _ _ w.heap.size MA MI (.slice v1 v2 v3) rfl HR.out.set.range) rfl ⟨.slice v1 v2 v3, ?_, ?_, ?_⟩
        · rw [HKV.out, HOk.out, HMA.out, HMI.out]; rfl
        · rw [HKV.out, ← HE.out]
          exact ((((But.refl w.heap.size wr).set 0 _).set 1 _).set 2 _).own (own_base HO.out (show w.heap.size ≤ tb + 1 by omega)) (own_triR HO.out HR.out)
        · exact ((HBw.out.setCell (p := ⟨w.heap.size, 0, none⟩) (Nat.le_refl _) _).setCell (p := ⟨w.heap.size, 1, none⟩) (Nat.le_refl _) _).setCell (p := ⟨w.heap.size, 2, none⟩) (Nat.le_refl _) _
      | true =>
        have HSt := hid (show prm (mstepP out L.data.toList) (leftL (!(parR L.data.toList).isEmpty) ((parR L.data.toList).drop 1)) = prm [] (leftL mo Z.data.toList) by rw [← HPr.out, prm_left])
        have hll := left_len L.data.toList
        have hpl := parR_le L.data.toList
        rw [← Lib.size_eq] at hll hpl
        have hol' : out.length + (L.size + 1) ≤ 1000001 := by
          have : (leftL true L.data.toList).length = L.size + 1 := by rw [Lib.size_eq]; rfl
          omega
        obtain ⟨RN, hRN⟩ : ∃ x, ba (rNV L.data.toList) = x := ⟨_, rfl⟩
        obtain ⟨RV, hRV⟩ : ∃ x, ba (rVV L.data.toList) = x := ⟨_, rfl⟩
        obtain ⟨L', hL'⟩ : ∃ x, ba ((parR L.data.toList).drop 1) = x := ⟨_, rfl⟩
        obtain ⟨m', hm'⟩ : ∃ x, (!(parR L.data.toList).isEmpty) = x := ⟨_, rfl⟩
        have hL'l : (parR L.data.toList).drop 1 = L'.data.toList := by rw [← hL']; rfl
        have hRNl : rNV L.data.toList = RN.data.toList := by rw [← hRN]; rfl
        have hRVl : rVV L.data.toList = RV.data.toList := by rw [← hRV]; rfl
        have hRNs : RN.size ≤ 1000000 := by
          have h1 := upA_le [59, 61] (tL L.data.toList)
          have h2 := tL_le L.data.toList
          rw [Lib.size_eq, ← hRNl]; rw [← Lib.size_eq] at h2
          unfold rNV namP low
          split
          · rw [List.length_map]; omega
          · simp
        have hRVs : RV.size ≤ 1000000 := by
          have h1 := upR_le [59, 61] (tL L.data.toList)
          have h2 := tL_le L.data.toList
          have h3 := valV_le ((rstP L.data.toList).drop 1)
          rw [Lib.size_eq, ← hRVl]; rw [← Lib.size_eq] at h2
          rw [List.length_drop] at h3
          unfold rVV
          split
          · unfold rstP at *; omega
          · simp
        have hL's : L'.size ≤ 1000000 := by rw [Lib.size_eq, ← hL'l, List.length_drop]; omega
        have hL'm : m' = true → L'.size + 1 ≤ L.size := by
          intro h
          rw [Lib.size_eq, ← hL'l, List.length_drop]
          have : parR L.data.toList ≠ [] := by intro e; rw [e] at hm'; rw [← hm'] at h; cases h
          have := List.length_pos_iff.2 this
          omega
        have HPa : Hid (∀ w : World, Calls Tryz.prog 69 #[.string L] w fun e w' => e = .returned (.tuple #[.agg #[.string RN, .string RV], .string L', .bool m']) ∧ Below w.heap.size w w') := fun w => by
          have := rparam_any L w (by omega)
          unfold NrPost hdVal at this
          rw [hRN, hRV, hL', hm'] at this
          exact this
        rw [hm', hL'l] at HSt hll
        have HSp := hid (show mstepP out L.data.toList = if (tokL RN.data.toList && fitV RV.data.toList) && !has6 out RN.data.toList then out ++ [⟨RN.data.toList, RV.data.toList⟩] else out by rw [step_ref, hRNl, hRVl])
        have hll' : out.length + 1 + (leftL m' L'.data.toList).length ≤ 1000001 := by omega
        have Hll := hid hll'
        have HL'm := hid hL'm
        clear hRN hRV hL' hm' hL'l hRNl hRVl hll hpl hol hL'm hll'
        have HTx := hid (HTr'.out.kept ((Below.refl _ wr).alloc (Nat.le_refl _) (.cells #[.string ⟨#[]⟩, .string ⟨#[]⟩] 44)))
        have HRx := hid (HR.out.kept ((Below.refl _ wr).alloc (Nat.le_refl _) (.cells #[.string ⟨#[]⟩, .string ⟨#[]⟩] 44)))
        have HOx := hid (HO.out.alloc (.cells #[.string ⟨#[]⟩, .string ⟨#[]⟩] 44))
        have HBx := hid (HBw.out.alloc HBw.out.size (.cells #[.string ⟨#[]⟩, .string ⟨#[]⟩] 44))
        have HPx := hid (show TwoR (wr.alloc (.cells #[.string ⟨#[]⟩, .string ⟨#[]⟩] 44)) wr.heap.size ⟨#[]⟩ ⟨#[]⟩ from heap_alloc_new _ _)
        go_wp2_with fail
        generalize (wr.alloc (.cells #[.string ⟨#[]⟩, .string ⟨#[]⟩] 44)) = X0 at *
        have hpbw : tb + 1 ≤ wr.heap.size := hsz
        have HApw := hid (own_far (j := 0) HO.out)
        have HTlt := hid HTr'.out.lt
        have HRlt := hid HR.out.lt
        generalize wr.heap.size = pb at *
        refine (HPa.out _).mono ?_
        rintro e w5 ⟨rfl, hb5⟩
        have HT5 := hid (HTx.out.kept hb5)
        have HR5 := hid (HRx.out.kept hb5)
        have HO5 := hid (own_same HOx.out hb5)
        have HB5 := hid (belowT HBx.out hb5)
        have HP5 := hid (HPx.out.kept hb5)
        obtain ⟨c0, c1, g0, g1⟩ := HP5.out.cells
        have HBt := hid (((But.refl pb w5).set 0 (.string RN)).set 1 (.string RV))
        have HT6 := hid (show TriR ((w5.setCell ⟨pb, 0, none⟩ (.string RN)).setCell ⟨pb, 1, none⟩ (.string RV)) tb MA MI (.slice v1 v2 v3) from HT5.out.but HBt.out (by omega))
        have HR6 := hid (show TriR ((w5.setCell ⟨pb, 0, none⟩ (.string RN)).setCell ⟨pb, 1, none⟩ (.string RV)) w.heap.size ⟨#[]⟩ ⟨#[]⟩ (.slice none 0 0) from HR5.out.but HBt.out (by have := HRlt.out; omega))
        have HO6 := hid (HBt.out.own HO5.out HApw.out)
        have HB6 := hid (show Below w.heap.size w ((w5.setCell ⟨pb, 0, none⟩ (.string RN)).setCell ⟨pb, 1, none⟩ (.string RV)) from (HB5.out.setCell (p := ⟨pb, 0, none⟩) (by show w.heap.size ≤ pb; have := HRlt.out; omega) _).setCell (p := ⟨pb, 1, none⟩) (by show w.heap.size ≤ pb; have := HRlt.out; omega) _)
        have HP6 := hid (HP5.out.set (n' := RN) (v' := RV))
        have hs6 : pb + 1 ≤ ((w5.setCell ⟨pb, 0, none⟩ (.string RN)).setCell ⟨pb, 1, none⟩ (.string RV)).heap.size := HP6.out.lt
        clear hb5
        go_wp2
        generalize ((w5.setCell ⟨pb, 0, none⟩ (.string RN)).setCell ⟨pb, 1, none⟩ (.string RV)) = w6 at *
        obtain ⟨_, _, ez, hz2', hz3', hzv⟩ := (own_hd HO6.out).view
        cases ez
        have HZ := hid hzv
        clear hzv c0 c1 g0 g1
        go_loopw [12, 13] (fun kn i wx => ∃ k : Nat, k ≤ out.length ∧ i = .int .i64 k ∧ kn = .bool (has6 (out.take k) RN.data.toList) ∧ Below w6.heap.size w6 wx) (fun _ i _ => out.length - (intOf i).toNat)
        case atStart => exact ⟨0, Nat.zero_le _, rfl, rfl, Below.refl _ _⟩
        case round =>
          obtain ⟨k, hk, rfl, rfl, hbk⟩ := hrel
          have HBk := hid hbk
          have hT := HT6.out.kept hbk
          have hP := HP6.out.kept hbk
          obtain ⟨y0, y1, y2⟩ := hT.cells
          obtain ⟨p0, p1, _, _⟩ := hP.cells
          clear hbk hT hP
          obtain ⟨kb, hkb⟩ : ∃ b, has6 (out.take k) RN.data.toList = b := ⟨_, rfl⟩
          rw [hkb]
          by_cases hlt : k < out.length
          · have hlt' : (k : Int) < (out.length : Int) := by omega
            have hst := has6_step out RN.data.toList k hlt
            rw [hkb] at hst
            obtain ⟨b1, o1, rfl, e1, _⟩ := HZ.out k hlt
            have f1 := (HBk.out.cell (World.block_lt_of_cell? w6 _ e1)).trans e1
            obtain ⟨nm, hnm⟩ : ∃ x : ByteArray, (⟨out[k].name.toArray⟩ : ByteArray) = x := ⟨_, rfl⟩
            rw [hnm] at f1
            obtain ⟨q, hq⟩ : ∃ q, (nm.toList == RN.toList) = q := ⟨_, rfl⟩
            have HN := hid (show has6 (out.take (k + 1)) RN.data.toList = (kb || q) by rw [hst, ← hq, Lib.toList_data, Lib.toList_data, ← hnm])
            clear hst e1 hnm hkb
            cases kb with
            | true =>
              go_wp2
              go_quiet (fail)
              go_wp2
              go_roundw
              case rel => exact ⟨k + 1, by omega, by go_num, by rw [HN.out]; rfl, below_drewN HBk.out _⟩
              case measure => simp [intOf]; omega
            | false =>
              go_wp2
              go_quiet (fail)
              go_wp2
              go_roundw
              case rel => exact ⟨k + 1, by omega, by go_num, by rw [HN.out]; rfl, below_drewN HBk.out _⟩
              case measure => simp [intOf]; omega
          · have hke : k = out.length := by omega
            subst hke
            rw [List.take_length] at hkb
            have hkb' := hkb
            clear hkb
            obtain ⟨tk, htk⟩ : ∃ t, tokL RN.data.toList = t := ⟨_, rfl⟩
            obtain ⟨ft, hft⟩ : ∃ t, fitV RV.data.toList = t := ⟨_, rfl⟩
            have HTk : Hid (∀ w : World, Calls Tryz.prog 68 #[.string RN] w fun e w' => e = .returned (.bool tk) ∧ w = w') := fun w => by
              rw [← htk]; exact rtoken_any RN w (by omega)
            have HFt : Hid (∀ w : World, Calls Tryz.prog 70 #[.string RV] w fun e w' => e = .returned (.bool ft) ∧ w' = w) := fun w => by
              rw [← hft]; exact rvalue_any RV w (by omega)
            have HSq := hid (show mstepP out L.data.toList = if (tk && ft) && !kb then out ++ [⟨RN.data.toList, RV.data.toList⟩] else out by rw [HSp.out, htk, hft, hkb'])
            have HTf := hid (HT6.out.kept HBk.out)
            have HRf := hid (HR6.out.kept HBk.out)
            have HOf := hid (own_same HO6.out HBk.out)
            have HBf := hid (HB6.out.trans (HBk.out.mono HB6.out.size))
            have hsf : pb + 1 ≤ wr.heap.size := by have := HBk.out.size; omega
            clear htk hft hkb'
            have hcs : ((tk && ft) && !kb) = true ∨ ((tk && ft) && !kb) = false := by cases ((tk && ft) && !kb) <;> simp
            rcases hcs with hc | hc
            · obtain ⟨⟨rfl, rfl⟩, rfl⟩ : (tk = true ∧ ft = true) ∧ kb = false := by simpa using hc
              have HSr := hid (show mstepP out L.data.toList = out ++ [⟨RN.data.toList, RV.data.toList⟩] by rw [HSq.out]; rfl)
              clear hc
              have g2 := HTf.out.frozen 2
              go_wp2_with fail
              refine (HTk.out _).mono ?_
              rintro e w' ⟨rfl, rfl⟩
              go_wp2_with fail
              refine (HFt.out _).mono ?_
              rintro e w' ⟨rfl, rfl⟩
              go_wp2_with (at_builtin; go_must (refine wpList_append_own _ rfl _ _ 37 rfl (tb + 1) 44 i0 _ 2 32 Tryz.underlying37 hi hz0 hz1 hz2 rfl (by decide) _ _ _ rfl (HOf.out.alloc _) ⟨w'.heap.size, 0, none⟩ 1 1 [.string RN, .string RV] rfl rfl ?c1 ?c2 ?c3 ?c4 ?c5 ?_))
              case c1 =>
                intro q u hq
                match q, hq with
                | 0, hq => simp at hq; subst hq; simp [Addr.add]
                | 1, hq => simp at hq; subst hq; simp [Addr.add]
              case c2 => intro u hu; simp at hu; rcases hu with rfl | rfl <;> rfl
              case c3 => unfold maxLen; omega
              case c4 => omega
              case c5 => simp; omega
              intro v' w7 hown' hgrow hnil
              obtain ⟨s5, n5, d5, rfl⟩ := own_slice hown'
              have HT7 := hid (show TriR w7 tb MA MI (.slice v1 out.length v3) from (hgrow.block _ (HTf.out.kept ((Below.refl _ _).alloc (Nat.le_refl _) (.cells #[.string RN, .string RV] 44))).lt (fun e => own_apart2 HOf.out (Nat.lt_succ_self _) e.symm)).trans (HTf.out.kept ((Below.refl _ _).alloc (Nat.le_refl _) _)))
              have HR7 := hid (show TriR w7 w.heap.size ⟨#[]⟩ ⟨#[]⟩ (.slice none 0 0) from (hgrow.block _ (HRf.out.kept ((Below.refl _ _).alloc (Nat.le_refl _) (.cells #[.string RN, .string RV] 44))).lt (fun e => own_apart2 HOf.out (show w.heap.size < tb + 1 by omega) e.symm)).trans (HRf.out.kept ((Below.refl _ _).alloc (Nat.le_refl _) _)))
              have HB7 := hid (show Below w.heap.size w w7 from (HBf.out.alloc HBf.out.size (.cells #[.string RN, .string RV] 44)).grown hgrow (by have := HBf.out.size; simp; omega) (fun g hg => by have := (HOf.out.lt g hg).1; omega))
              have HO7 := hid hown'
              have hs7 := hgrow.size
              simp at hs7
              clear hown' hgrow hnil y0 y1 y2 p0 p1
              obtain ⟨y0, y1, y2⟩ := HT7.out.cells
              have g2 := HT7.out.frozen 2
              go_wp2
              go_roundw
              case rel =>
                refine ⟨L', m', out ++ [⟨RN.data.toList, RV.data.toList⟩], .slice s5 n5 d5, rfl, rfl, hL's, ?_, HT7.out.set2 _, ?_, ?_, ?_, ?_, ?_⟩
                · have := Hll.out; simp; omega
                · rw [cellsH_app, cellsH_one, List.length_append]
                  have e1 : (⟨RN.data.toList.toArray⟩ : ByteArray) = RN := (xself RN).symm
                  have e2 : (⟨RV.data.toList.toArray⟩ : ByteArray) = RV := (xself RV).symm
                  rw [e1, e2]
                  exact ((But.refl tb w7).set 2 _).own HO7.out (own_triR HO7.out HT7.out)
                · rw [← HSr.out]; exact HSt.out
                · exact HR7.out.but ((But.refl tb w7).set 2 _) (by omega)
                · exact HB7.out.setCell (p := ⟨tb, 2, none⟩) (by show w.heap.size ≤ tb; omega) _
                · simp; omega
              case measure =>
                cases m' with
                | false => simp
                | true => have := HL'm.out rfl; simp; omega
            · have HSr := hid (show mstepP out L.data.toList = out by rw [HSq.out, hc]; rfl)
              have hcs2 : tk = false ∨ (tk = true ∧ ft = false) ∨ (tk = true ∧ ft = true ∧ kb = true) := by revert hc; cases tk <;> cases ft <;> cases kb <;> simp
              clear hc
              rcases hcs2 with rfl | ⟨rfl, rfl⟩ | ⟨rfl, rfl, rfl⟩
              · go_wp2_with fail
                refine (HTk.out _).mono ?_
                rintro e w' ⟨rfl, rfl⟩
                go_wp2
                go_roundw
                case rel =>
                  refine ⟨L', m', out, .slice v1 out.length v3, rfl, rfl, hL's, by have := Hll.out; omega, HTf.out, HOf.out, ?_, HRf.out, HBf.out, by omega⟩
                  have := HSt.out; rw [HSr.out] at this; exact this
                case measure =>
                  cases m' with
                  | false => simp
                  | true => have := HL'm.out rfl; simp; omega
              · go_wp2_with fail
                refine (HTk.out _).mono ?_
                rintro e w' ⟨rfl, rfl⟩
                go_wp2_with fail
                refine (HFt.out _).mono ?_
                rintro e w' ⟨rfl, rfl⟩
                go_wp2
                go_roundw
                case rel =>
                  refine ⟨L', m', out, .slice v1 out.length v3, rfl, rfl, hL's, by have := Hll.out; omega, HTf.out, HOf.out, ?_, HRf.out, HBf.out, by omega⟩
                  have := HSt.out; rw [HSr.out] at this; exact this
                case measure =>
                  cases m' with
                  | false => simp
                  | true => have := HL'm.out rfl; simp; omega
              · go_wp2_with fail
                refine (HTk.out _).mono ?_
                rintro e w' ⟨rfl, rfl⟩
                go_wp2_with fail
                refine (HFt.out _).mono ?_
                rintro e w' ⟨rfl, rfl⟩
                go_wp2
                go_roundw
                case rel =>
                  refine ⟨L', m', out, .slice v1 out.length v3, rfl, rfl, hL's, by have := Hll.out; omega, HTf.out, HOf.out, ?_, HRf.out, HBf.out, by omega⟩
                  have := HSt.out; rw [HSr.out] at this; exact this
                case measure =>
                  cases m' with
                  | false => simp
                  | true => have := HL'm.out rfl; simp; omega

  · have HKV := hid (show knV s.data.toList = knNone by unfold knV; rw [HOk.out, hf]; rfl)
    have HOk2 := hid (show knOk s.data.toList = false by rw [HOk.out, hf])
    obtain ⟨c0, c1, c2⟩ := HR2.out.cells
    have f0 := HR2.out.frozen 0
    have f1 := HR2.out.frozen 1
    have f2 := HR2.out.frozen 2
    clear hf
    rcases hcs with rfl | ⟨rfl, rfl⟩ | ⟨rfl, rfl, rfl⟩
    · go_wp2
      refine bodyPost_ret (results_q2 rfl _ _ w.heap.size ⟨#[]⟩ ⟨#[]⟩ (.slice none 0 0) rfl HR2.out.set.range) rfl ⟨.slice none 0 0, ?_, ?_, ?_⟩
      · rw [HKV.out, HOk2.out]; rfl
      · rw [HKV.out]; exact World.ownsRow_nil _ _ _ _
      · exact ((HB2.out.setCell (p := ⟨w.heap.size, 0, none⟩) (Nat.le_refl _) _).setCell (p := ⟨w.heap.size, 1, none⟩) (Nat.le_refl _) _).setCell (p := ⟨w.heap.size, 2, none⟩) (Nat.le_refl _) _
    · go_wp2_with fail
      refine (HT1.out _).mono ?_
      rintro e w' ⟨rfl, rfl⟩
      go_wp2
      refine bodyPost_ret (results_q2 rfl _ _ w.heap.size ⟨#[]⟩ ⟨#[]⟩ (.slice none 0 0) rfl HR2.out.set.range) rfl ⟨.slice none 0 0, ?_, ?_, ?_⟩
      · rw [HKV.out, HOk2.out]; rfl
      · rw [HKV.out]; exact World.ownsRow_nil _ _ _ _
      · exact ((HB2.out.setCell (p := ⟨w.heap.size, 0, none⟩) (Nat.le_refl _) _).setCell (p := ⟨w.heap.size, 1, none⟩) (Nat.le_refl _) _).setCell (p := ⟨w.heap.size, 2, none⟩) (Nat.le_refl _) _
    · go_wp2_with fail
      refine (HT1.out _).mono ?_
      rintro e w' ⟨rfl, rfl⟩
      go_wp2_with fail
      refine (HT2.out _).mono ?_
      rintro e w' ⟨rfl, rfl⟩
      go_wp2
      refine bodyPost_ret (results_q2 rfl _ _ w.heap.size ⟨#[]⟩ ⟨#[]⟩ (.slice none 0 0) rfl HR2.out.set.range) rfl ⟨.slice none 0 0, ?_, ?_, ?_⟩
      · rw [HKV.out, HOk2.out]; rfl
      · rw [HKV.out]; exact World.ownsRow_nil _ _ _ _
      · exact ((HB2.out.setCell (p := ⟨w.heap.size, 0, none⟩) (Nat.le_refl _) _).setCell (p := ⟨w.heap.size, 1, none⟩) (Nat.le_refl _) _).setCell (p := ⟨w.heap.size, 2, none⟩) (Nat.le_refl _) _

end Go.Proofs.YtjmkccnjjofmeaaGreatDoor

namespace Go.Proofs.YtjmkccnjjofmeaaGreatDoor

open Go.RowKit

def v64 (c : UInt8) : Int := if is64 c then val64I c.toNat else -1

theorem v64_all : ∀ n, n < 256 → is64I ((n : Nat) : Int) = true → (d64 (val64I ((n : Nat) : Int)).toNat).toNat = n ∧ (val64I ((n : Nat) : Int)).toNat < 64 := by decide +kernel

theorem v64_none (c : UInt8) (h : ∀ j, j < 64 → d64 j ≠ c) : v64 c = -1 := by
  unfold v64
  by_cases h6 : is64 c = true
  · have := v64_all c.toNat c.toNat_lt h6
    exact absurd (UInt8.toNat_inj.1 this.1) (h _ this.2)
  · rw [if_neg h6]

theorem v64_at (k : Nat) (h : k < 64) : v64 (d64 k) = k := by
  have := d64_facts k h
  unfold v64
  rw [if_pos this.2.1, this.1]

theorem size64 : (ByteArray.mk #[65, 66, 67, 68, 69, 70, 71, 72, 73, 74, 75, 76, 77, 78, 79, 80, 81, 82, 83, 84, 85, 86, 87, 88, 89, 90, 97, 98, 99, 100, 101, 102, 103, 104, 105, 106, 107, 108, 109, 110, 111, 112, 113, 114, 115, 116, 117, 118, 119, 120, 121, 122, 48, 49, 50, 51, 52, 53, 54, 55, 56, 57, 43, 47]).size = 64 := rfl

set_option maxHeartbeats 1000000 in
theorem rvalue64_any (c : UInt8) (w : World) :
    Calls Tryz.prog 65 #[.int .u8 c.toNat] w fun e w' => e = .returned (.int .i64 (v64 c)) ∧ w = w' := by
  have hs64 := size64
  go_enter Tryz.func65, Tryz.ntmps65
  go_wp2
  go_loop [3] (fun i => ∃ k : Nat, k ≤ 64 ∧ i = .int .i64 k ∧ ∀ j, j < k → d64 j ≠ c) (fun i => 64 - (intOf i).toNat)
  case atStart => exact ⟨0, Nat.zero_le _, rfl, fun j hj => absurd hj (by omega)⟩
  case round =>
    obtain ⟨k, hk, rfl, hall⟩ := hrel
    have HA := hid hall
    clear hall
    by_cases hlt : k < 64
    · have hat := d64_at k (by rw [hs64]; exact hlt)
      have hki : (k : Int) < 64 := by omega
      have hkz : k < (ByteArray.mk #[65, 66, 67, 68, 69, 70, 71, 72, 73, 74, 75, 76, 77, 78, 79, 80, 81, 82, 83, 84, 85, 86, 87, 88, 89, 90, 97, 98, 99, 100, 101, 102, 103, 104, 105, 106, 107, 108, 109, 110, 111, 112, 113, 114, 115, 116, 117, 118, 119, 120, 121, 122, 48, 49, 50, 51, 52, 53, 54, 55, 56, 57, 43, 47]).size := by rw [hs64]; exact hlt
      by_cases hc : d64 k = c
      · have hq : (((d64 k).toNat : Int) == (c.toNat : Int)) = true := by rw [hc]; simp
        have HC := hid hc
        clear hc
        go_wp2
        go_ret
        refine ⟨ret_int ?_, rfl⟩
        rw [← HC.out, v64_at k hlt]
      · have hq : (((d64 k).toNat : Int) == (c.toNat : Int)) = false := by
          rw [beq_eq_false_iff_ne]
          intro e
          exact hc (UInt8.toNat_inj.1 (by omega))
        have HC := hid hc
        clear hc
        go_wp2
        go_round
        case rel =>
          refine ⟨k + 1, by omega, by go_num, fun j hj => ?_⟩
          by_cases e : j = k
          · rw [e]; exact HC.out
          · exact HA.out j (by omega)
        case measure => simp [intOf]; omega
    · obtain rfl : k = 64 := by omega
      go_wp2
      go_ret
      exact ⟨ret_int (v64_none c HA.out).symm, rfl⟩

def trim1 (l : List UInt8) : List UInt8 := Lib.trimSuffix l [61]

def padN : Nat → List UInt8 → List UInt8
  | 0, l => l
  | n + 1, l => padN n (trim1 l)

theorem trim1_last (l : List UInt8) (h : l.length - 1 < l.length) : trim1 l = if l[l.length - 1] = 61 then l.take (l.length - 1) else l := by
  unfold trim1 Lib.trimSuffix
  have e : l.drop (l.length - 1) = [l[l.length - 1]] := by
    rw [List.drop_eq_getElem_cons h, List.drop_of_length_le (by omega)]
  have hs : Lib.hasSuffix l [61] = decide (l[l.length - 1] = 61) := by
    rw [← Lib.hasSuffix_of_drop]
    show (decide (1 ≤ l.length) && (l.drop (l.length - 1) == [61])) = _
    rw [e]
    have : 1 ≤ l.length := by omega
    rw [Bool.eq_iff_iff]
    simp [this]
  rw [hs]
  simp

theorem padN_same (n : Nat) (l : List UInt8) (h : trim1 l = l) : padN n l = l := by
  induction n with
  | zero => rfl
  | succ n ih => unfold padN; rw [h]; exact ih

theorem noPadding_padN (l : List UInt8) (h : l.length % 4 = 0) : padN 2 l = noPadding l := by
  unfold noPadding
  rw [if_pos h]
  rfl

theorem noPadding_id (l : List UInt8) (h : ¬ l.length % 4 = 0) : noPadding l = l := by unfold noPadding; rw [if_neg h]

theorem shr16 (m h : Nat) (hh : h ≤ 4) : ((m % 65536 : Nat) : Int) / 2 ^ h % 256 = ((UInt8.ofNat (m / 2 ^ h)).toNat : Int) := by
  have e : (UInt8.ofNat (m / 2 ^ h)).toNat = m / 2 ^ h % 256 := by simp
  rw [e]
  rcases (show h = 0 ∨ h = 1 ∨ h = 2 ∨ h = 3 ∨ h = 4 from by omega) with rfl | rfl | rfl | rfl | rfl <;> simp <;> omega

end Go.Proofs.YtjmkccnjjofmeaaGreatDoor

namespace Go.Proofs.YtjmkccnjjofmeaaGreatDoor

open Go.RowKit

/-- What stands behind the padding's loop. -/
def PadRel (B : List UInt8) (wr : World) (v : Value) (wc : World) : Prop := ∃ a n c, v = .slice a n c ∧ n ≤ c ∧ c ≤ maxLen ∧ SlB wc (.slice a n c) (noPadding B) ∧ wc = wr

def PadInv (B : List UInt8) (wr : World) (v k6 : Value) : Prop := ∃ (j : Nat) (a : Option Addr) (n c : Nat) (B' : List UInt8), k6 = .int .i64 j ∧ j ≤ 2 ∧ v = .slice a n c ∧ n ≤ c ∧ c ≤ maxLen ∧ n ≤ 1000000 ∧ SlB wr (.slice a n c) B' ∧ padN (2 - j) B' = noPadding B

set_option maxHeartbeats 2000000 in
set_option maxRecDepth 100000 in
theorem rbase64_any (s : ByteArray) (w : World) (hs : s.size ≤ 1000000) :
    Calls Tryz.prog 36 #[.string s] w fun e w' => Below w.heap.size w w' ∧
      ((b64 s.data.toList = none ∧ e = .returned (.tuple #[.slice none 0 0, .bool false])) ∨ ∃ a n c l, b64 s.data.toList = some l ∧ e = .returned (.tuple #[.slice a n c, .bool true]) ∧ SlB w' (.slice a n c) l) := by
  obtain ⟨i0, hi, hz0, hz1, hz2⟩ := info_parts infoByte
  go_enter Tryz.func36, Tryz.ntmps36
  go_wp2
  go_loopw [4, 5] (fun v i wr => ∃ k : Nat, k ≤ s.size ∧ i = .int .i64 k ∧ wr.ownsRow w.heap.size 5 1 v (noBlanks (s.data.toList.take k)).length (Lib.byteCells (noBlanks (s.data.toList.take k))) ∧ Below w.heap.size w wr)
    (fun _ i _ => s.size - (intOf i).toNat)
  case atStart => exact ⟨0, Nat.zero_le _, rfl, World.ownsRow_nil w _ _ _, Below.refl _ w⟩
  case round =>
    obtain ⟨k, hk, rfl, hown, hbw⟩ := hrel
    have hle := noBlanks_le (s.data.toList.take k)
    have htl : (s.data.toList.take k).length ≤ k := List.length_take_le _ _
    by_cases hlt : k < s.size
    · have HT : Hid (s.data.toList.take (k + 1) = s.data.toList.take k ++ [s[k]]) := take_snoc s k hlt
      by_cases hbl : blankI (s[k].toNat : Int) = true
      · go_wp2_with (go_at_call 63; refine (rblank_any _ _).mono ?_; rintro e w' ⟨rfl, rfl⟩)
        go_roundw
        case rel =>
          refine ⟨k + 1, by omega, by go_num, ?_, hbw⟩
          rw [HT.out, noBlanks_snoc_yes _ _ hbl]; exact hown
        case measure => simp [intOf]; omega
      · have hbl' : blankI (s[k].toNat : Int) = false := by simpa using hbl
        clear hbl
        go_wp2_with (first | (go_at_call 63; refine (rblank_any _ _).mono ?_; rintro e w' ⟨rfl, rfl⟩) | (at_builtin; refine wpList_append_own _ rfl _ _ 27 rfl w.heap.size 5 i0 (.int .u8 0) 1 1 Tryz.underlying27 hi hz0 hz1 hz2 rfl (by decide) _ _ _ rfl (hown.alloc _) ⟨wr.heap.size, 0, none⟩ 1 1 [.int .u8 s[k].toNat] rfl rfl ?c1 ?c2 ?c3 ?c4 ?c5 ?_))
        case c1 =>
          intro j u hj
          match j, hj with
          | 0, hj => simp at hj; subst hj; simp [Addr.add]
        case c2 => intro u hu; simp at hu; subst hu; rfl
        case c3 => unfold maxLen; omega
        case c4 => omega
        case c5 => have := hbw.size; simp; omega
        intro v' w2 hown' hgrow hnil
        go_wp2
        go_roundw
        case rel =>
          refine ⟨k + 1, by omega, by go_num, ?_, ?_⟩
          · rw [HT.out, noBlanks_snoc_no _ _ hbl', Lib.byteCells_append, byteCells_one]; simpa using hown'
          · exact (hbw.alloc hbw.size _).grown hgrow (by have := hbw.size; simp; omega) (fun g hg => (hown.lt g hg).1)
        case measure => simp [intOf]; omega
    · rw [take_all s k hlt] at hown
      have hS := SlB.own hown
      have hle := noBlanks_le s.data.toList
      rw [← Lib.size_eq] at hle
      have HB : Hid (b64 s.data.toList = if (noPadding (noBlanks s.data.toList)).length % 4 = 1 then none else if (noPadding (noBlanks s.data.toList)).all is64 then some (run64 (noPadding (noBlanks s.data.toList))).2.2 else none) := hid rfl
      have hcap : ∃ a n c, u4 = .slice a n c ∧ n ≤ c ∧ c ≤ maxLen := by
        rcases hown.2 with ⟨rfl, h0⟩ | ⟨g, cap, cur, rfl, _, _, h1, h2, _⟩
        · exact ⟨none, 0, 0, rfl, Nat.le_refl _, by unfold maxLen; omega⟩
        · exact ⟨_, _, _, rfl, h1, h2⟩
      obtain ⟨a, n, c, rfl, hnc, hcm⟩ := hcap
      generalize noBlanks s.data.toList = B at hS hle HB
      have hn := hS.length
      subst hn
      clear hown
      go_upto_if 32 with fail
      go_cut [4, 6] (fun v _ wc => PadRel B wr v wc)
      case first =>
        by_cases h4 : B.length % 4 = 0
        · have h4' : ((B.length : Int) % 4 == 0) = true := by simp; omega
          have HN := hid (noPadding_padN B h4)
          clear h4
          go_wp2
          go_loop [4, 6] (fun v k6 => PadInv B wr v k6) (fun _ k6 => 2 - (intOf k6).toNat)
          case atStart => exact ⟨0, a, B.length, c, B, rfl, by omega, rfl, hnc, hcm, by omega, hS, HN.out⟩
          case round =>
            obtain ⟨j, a', n', c', B', rfl, hj, rfl, hnc', hcm', hb6, hS', hp⟩ := hrel
            have hn' := hS'.length
            subst hn'
            have HP := hid hp
            clear hp
            by_cases hj2 : j < 2
            · have hji : (j : Int) < 2 := by omega
              by_cases h0 : B'.length = 0
              · have hd : (B'.length : Int) ≤ 0 := by omega
                have hnil := hid (List.eq_nil_of_length_eq_zero h0)
                clear h0
                go_wp2
                go_meet
                case rel =>
                  refine ⟨a', B'.length, c', rfl, hnc', hcm', ?_, rfl⟩
                  have : noPadding B = B' := by rw [← HP.out]; exact padN_same _ _ (by rw [hnil.out]; rfl)
                  rw [this]; exact hS'
              · obtain ⟨p, rfl, _, hpc⟩ := hS'.some (by omega)
                have hlast : B'.length - 1 < B'.length := by omega
                have hc := hpc (B'.length - 1) hlast
                have HL := hid (trim1_last B' hlast)
                have hpos : (0 : Int) < (B'.length : Int) := by omega
                have hpos' : decide ((0 : Int) < (B'.length : Int)) = true := decide_eq_true hpos
                clear hpc
                generalize B'[B'.length - 1] = cc at hc HL
                by_cases h61 : cc = 61
                · have h61' : (cc.toNat : Int) = 61 := by rw [h61]; rfl
                  rw [h61'] at hc
                  have hT := hS'.take (B'.length - 1) hlast
                  have hl : (B'.take (B'.length - 1)).length = B'.length - 1 := by simp
                  have HLl := hid hl
                  clear hl
                  go_wp2
                  go_round
                  case rel =>
                    unfold PadInv
                    refine ⟨j + 1, some p, B'.length - 1, c', B'.take (B'.length - 1), by go_num, by omega, by go_num, by omega, hcm', by omega, hT, ?_⟩
                    rw [← HP.out, show 2 - j = (2 - (j + 1)) + 1 by omega]
                    show _ = padN _ (trim1 B')
                    rw [HL.out, if_pos h61]
                  case measure => simp [intOf]; omega
                · have h61' : ((cc.toNat : Int) == 61) = false := by
                    rw [beq_eq_false_iff_ne]
                    intro e
                    exact h61 (UInt8.toNat_inj.1 (by show cc.toNat = 61; omega))
                  go_wp2
                  go_meet
                  case rel =>
                    refine ⟨some p, B'.length, c', rfl, hnc', hcm', ?_, rfl⟩
                    have : noPadding B = B' := by rw [← HP.out]; exact padN_same _ _ (by rw [HL.out, if_neg h61])
                    rw [this]; exact hS'
            · obtain rfl : j = 2 := by omega
              go_wp2
              go_meet
              case rel =>
                refine ⟨a', B'.length, c', rfl, hnc', hcm', ?_, rfl⟩
                have : noPadding B = B' := HP.out.symm
                rw [this]; exact hS'
        · have h4' : ((B.length : Int) % 4 == 0) = false := by simp; omega
          have HN := hid (noPadding_id B h4)
          clear h4
          go_wp2
          go_meet
          case rel => exact ⟨a, B.length, c, rfl, hnc, hcm, by rw [HN.out]; exact hS, rfl⟩
      case rest =>
        obtain ⟨a1, n1, c1, rfl, hnc1, hcm1, hS1, rfl⟩ := hcut
        have hpl : (noPadding B).length ≤ B.length := by
          unfold noPadding
          split
          · exact Nat.le_trans (Lib.trimSuffix_le _ _) (Lib.trimSuffix_le _ _)
          · exact Nat.le_refl _
        generalize noPadding B = d at hS1 HB hpl
        clear hS hnc hcm
        have hn1 := hS1.length
        subst hn1
        by_cases h1 : d.length % 4 = 1
        · have h1' : ((d.length : Int) % 4 == 1) = true := by simp; omega
          go_wp2
          go_ret2
          refine ⟨hbw, .inl ⟨?_, rfl⟩⟩
          rw [HB.out, if_pos h1]
        · have h1' : ((d.length : Int) % 4 == 1) = false := by simp; omega
          have hd6 : d.length ≤ 1000000 := by omega
          clear hpl hle
          go_wp2
          go_loopw [7, 8, 9, 10] (fun v nn h i wr => ∃ k N : Nat, k ≤ d.length ∧ i = .int .i64 k ∧ h = .int .i64 (run64 (d.take k)).2.1 ∧ nn = .int .i64 N ∧ N = (run64 (d.take k)).1 % 65536 ∧
              wr.ownsRow wc.heap.size 5 1 v (run64 (d.take k)).2.2.length (Lib.byteCells (run64 (d.take k)).2.2) ∧ (d.take k).all is64 = true ∧ Below wc.heap.size wc wr)
            (fun _ _ _ i _ => d.length - (intOf i).toNat)
          case atStart => exact ⟨0, 0, Nat.zero_le _, rfl, rfl, rfl, rfl, World.ownsRow_nil wc _ _ _, rfl, Below.refl _ wc⟩
          case round =>
            obtain ⟨k3, N, hk3, rfl, rfl, rfl, hN, hown, hall, hb3⟩ := hrel
            have hh := run64_held (d.take k3)
            have hle3 := run64_len (d.take k3)
            have htl3 : (d.take k3).length ≤ k3 := List.length_take_le _ _
            by_cases hlt3 : k3 < d.length
            · obtain ⟨p, rfl, _, hpc⟩ := (hS1.kept hb3).some (by omega)
              have hc := hpc k3 hlt3
              have HT := hid (List.take_succ_eq_append_getElem hlt3)
              have hmem := hid (List.getElem_mem hlt3)
              clear hpc
              generalize d[k3] = cc at hc HT hmem
              have HA := hid hall
              clear hall
              have HS := hid (run64_snoc (d.take k3) cc)
              have hki : (k3 : Int) < (d.length : Int) := by omega
              generalize hr : run64 (d.take k3) = R at *
              obtain ⟨NN, H, O⟩ := R
              have HR := hid hr
              clear hr
              simp only at hown hh hle3 hN
              by_cases h64 : is64 cc = true
              · have hv := val64_lt (cc.toNat : Int)
                obtain ⟨V, hV⟩ : ∃ V : Nat, V = (val64I cc.toNat).toNat := ⟨_, rfl⟩
                have hvv : v64 cc = (V : Int) := by unfold v64; rw [if_pos h64, hV]; omega
                have hV64 : V < 64 := by omega
                have HV := hid hV
                clear hV hv
                obtain ⟨M, hM⟩ : ∃ M : Nat, M = (NN * 64 + V) % 65536 := ⟨_, rfl⟩
                have hMI : ((N : Int) * 64 + (V : Int)) % 65536 = (M : Int) := by omega
                have hN6 : N < 65536 := by omega
                have hM6 : M < 65536 := by omega
                have HM := hid hM
                have HN := hid hN
                clear hM hN
                by_cases hH : 2 ≤ H
                · have hHI : (8 : Int) ≤ (H : Int) + 6 := by omega
                  have HX : Hid ((M : Int) / 2 ^ (H - 2) % 256 = ((UInt8.ofNat ((NN * 64 + V) / 2 ^ (H - 2))).toNat : Int)) := by rw [HM.out]; exact shr16 _ _ (by omega)
                  go_wp2_with (first | (go_at_call 65; refine (rvalue64_any _ _).mono ?_; rintro e w' ⟨rfl, rfl⟩) | (at_builtin; refine wpList_append_own _ rfl _ _ 27 rfl wc.heap.size 5 i0 (.int .u8 0) 1 1 Tryz.underlying27 hi hz0 hz1 hz2 rfl (by decide) _ _ _ rfl (hown.alloc _) ⟨wr.heap.size, 0, none⟩ 1 1 [.int .u8 ((M : Int) / 2 ^ (H - 2) % 256)] rfl rfl ?c1 ?c2 ?c3 ?c4 ?c5 ?_))
                  case c1 =>
                    intro j u hj
                    match j, hj with
                    | 0, hj => simp at hj; subst hj; simp [Addr.add]
                  case c2 => intro u hu; simp at hu; subst hu; rfl
                  case c3 => unfold maxLen; omega
                  case c4 => omega
                  case c5 => have := hb3.size; simp; omega
                  intro v' w4 hown' hgrow hnil
                  have HSt : Hid (run64 (d.take (k3 + 1)) = (NN * 64 + V, H - 2, O ++ [UInt8.ofNat ((NN * 64 + V) / 2 ^ (H - 2))])) := by
                    rw [HT.out, HS.out, HV.out]
                    exact hid (by rw [step64, if_pos hH])
                  go_wp2
                  go_roundw
                  case rel =>
                    refine ⟨k3 + 1, M, by omega, by go_num, ?_, rfl, ?_, ?_, ?_, ?_⟩
                    · rw [HSt.out]; go_num
                    · rw [HSt.out]; exact HM.out
                    · rw [HSt.out, Lib.byteCells_append, byteCells_one, ← HX.out]; simpa using hown'
                    · rw [HT.out, List.all_append, HA.out]; simp [h64]
                    · exact (hb3.alloc hb3.size _).grown hgrow (by have := hb3.size; simp; omega) (fun g hg => (hown.lt g hg).1)
                  case measure => simp [intOf]; omega
                · have hHI : (H : Int) + 6 < 8 := by omega
                  have HSt : Hid (run64 (d.take (k3 + 1)) = (NN * 64 + V, H + 6, O)) := by
                    rw [HT.out, HS.out, HV.out]
                    exact hid (by rw [step64, if_neg hH])
                  go_wp2_with (go_at_call 65; refine (rvalue64_any _ _).mono ?_; rintro e w' ⟨rfl, rfl⟩)
                  go_roundw
                  case rel =>
                    refine ⟨k3 + 1, M, by omega, by go_num, ?_, by rw [hMI], ?_, ?_, ?_, hb3⟩
                    · rw [HSt.out]; go_num
                    · rw [HSt.out]; exact HM.out
                    · rw [HSt.out]; exact hown
                    · rw [HT.out, List.all_append, HA.out]; simp [h64]
                  case measure => simp [intOf]; omega
              · have hvv : v64 cc = -1 := by unfold v64; rw [if_neg h64]
                go_wp2_with (go_at_call 65; refine (rvalue64_any _ _).mono ?_; rintro e w' ⟨rfl, rfl⟩)
                go_ret2
                refine ⟨hbw.trans (hb3.mono hbw.size), .inl ⟨?_, rfl⟩⟩
                have : d.all is64 = false := by
                  rw [List.all_eq_false]
                  exact ⟨cc, hmem.out, by simpa using h64⟩
                rw [HB.out, if_neg h1, this]
                rfl
            · rw [List.take_of_length_le (by omega)] at hown hall
              have hSo := SlB.own hown
              obtain ⟨ao, co, hvo⟩ := hSo.len
              subst hvo
              have HS2 := hid hSo
              have HA2 := hid hall
              clear hown hall hSo
              go_wp2
              go_ret2
              refine ⟨hbw.trans (hb3.mono hbw.size), .inr ⟨_, _, _, _, ?_, rfl, HS2.out⟩⟩
              rw [HB.out, if_neg h1, HA2.out]
              rfl

end Go.Proofs.YtjmkccnjjofmeaaGreatDoor
