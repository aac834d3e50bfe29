/-
  The walks of the document's own answers of chapter 6: ostiaryref6's Essence, Text.
  The walks of the document's own answers: ostiaryref1's Has, ostiaryref6's Group.
-/
import Derived.Test.YtiemggepdeaogaaGreatDoorNd
import Derived.Test.YtiemggepdeaogaaGreatDoorMk
set_option linter.unusedSimpArgs false
set_option linter.unusedVariables false
namespace Go.Proofs.YtiemggepdeaogaaGreatDoor
open Go.RowKit

set_option maxHeartbeats 1000000 in
theorem ressence_any (a m : ByteArray) (x : Option Addr) (n c : Nat) (w : World) (ha : a.size ≤ 4000000000) (hm : m.size ≤ 4000000000) :
    Calls Tryz.prog 18 #[.agg #[.string a, .string m, .slice x n c]] w fun e w' => e = .returned (.string (ba (a.data.toList ++ 47 :: m.data.toList))) ∧ Below w.heap.size w w' := by
  have HV := hid (show ba (a.data.toList ++ 47 :: m.data.toList) = a ++ (⟨#[47]⟩ : ByteArray) ++ m from xba (by simp [ba]))
  have HB := hid (show Below w.heap.size w (w.alloc (.cells #[.string a, .string m, .slice x n c] 31)) from (Below.refl _ w).alloc (Nat.le_refl _) _)
  go_enter Tryz.func18, Tryz.ntmps18
  go_wp2
  go_ret
  rw [HV.out]
  exact ⟨rfl, HB.out⟩

theorem esc_step (v : ByteArray) (k : Nat) (h : k < v.size) : (v.data.toList.take (k + 1)).flatMap escC = (v.data.toList.take k).flatMap escC ++ escC v[k] := by
  rw [take_snoc v k h, List.flatMap_append]; simp

theorem ba_two (a b : List UInt8) : ba a ++ ba b = ba (a ++ b) := xba (by simp [ba])
theorem ba_lit (a : List UInt8) (c : UInt8) : ba a ++ (⟨#[c]⟩ : ByteArray) = ba (a ++ [c]) := xba (by simp [ba])
theorem ba_str (a : List UInt8) (s : ByteArray) : ba a ++ s = ba (a ++ s.data.toList) := xba (by simp [ba])
theorem ba_ext1 (a : List UInt8) (s : ByteArray) (k : Nat) (h : k < s.size) : ba a ++ s.extract k (k + 1) = ba (a ++ [s[k]]) := word_app s k h a

end Go.Proofs.YtiemggepdeaogaaGreatDoor

namespace Go.Proofs.YtiemggepdeaogaaGreatDoor
open Go.RowKit

set_option maxHeartbeats 1000000 in
theorem rhas_any (v : Value) (L : List (List UInt8)) (s : ByteArray) (w : World) (h : TxAt w v L) (hl : L.length ≤ 1000000) :
    Calls Tryz.prog 45 #[v, .string s] w fun e w' => e = .returned (.bool (L.any fun x => isL s.data.toList x)) ∧ w = w' := by
  obtain ⟨x1, c1, rfl, hc1, hm1, hv1⟩ := h.view
  have V1 := hid hv1
  clear h hv1
  go_enter Tryz.func45, Tryz.ntmps45
  go_wp2
  go_loop [5] (fun i => ∃ k : Nat, k ≤ L.length ∧ i = .int .i64 k ∧ ((L.take k).any fun x => isL s.data.toList x) = false) (fun i => L.length - (intOf i).toNat)
  case atStart => exact ⟨0, Nat.zero_le _, rfl, rfl⟩
  case round =>
    obtain ⟨k, hk, rfl, hno⟩ := hrel
    have HN := hid hno
    clear hno
    by_cases hlt : k < L.length
    · have hlt' : (k : Int) < (L.length : Int) := by omega
      obtain ⟨b1, o1, rfl, e1⟩ := V1.out k hlt
      obtain ⟨X, hX⟩ : ∃ x : ByteArray, (⟨L[k].toArray⟩ : ByteArray) = x := ⟨_, rfl⟩
      rw [hX] at e1
      obtain ⟨q, hq⟩ : ∃ q, (X.toList == s.toList) = q := ⟨_, rfl⟩
      have hLk : isL s.data.toList L[k] = q := by
        rw [← hq, Lib.toList_data, Lib.toList_data, ← hX]
        show (s.data.toList == L[k]) = (L[k] == s.data.toList)
        exact BEq.comm
      have hs : ((L.take (k + 1)).any fun x => isL s.data.toList x) = (((L.take k).any fun x => isL s.data.toList x) || q) := by
        rw [List.take_succ_eq_append_getElem hlt, List.any_append]; simp [hLk]
      rw [HN.out, Bool.false_or] at hs
      cases q with
      | true =>
        have HF := hid (show (L.any fun x => isL s.data.toList x) = true by
          rw [List.any_eq_true]
          exact ⟨L[k], List.getElem_mem hlt, hLk⟩)
        clear hs hLk hX
        go_wp2
        go_ret
        exact ⟨ret_tf HF.out.symm, rfl⟩
      | false =>
        have HS := hid hs
        clear hs hLk hX
        go_wp2
        go_round
        case rel => exact ⟨k + 1, by omega, by go_num, HS.out⟩
        case measure => simp [intOf]; omega
    · have hke : k = L.length := by omega
      subst hke
      have HF := hid (show (L.any fun x => isL s.data.toList x) = false by have := HN.out; rwa [List.take_length] at this)
      go_wp2
      go_ret
      exact ⟨ret_tf HF.out.symm, rfl⟩

def jsL : List (List UInt8) := [[106, 97, 118, 97, 115, 99, 114, 105, 112, 116], [101, 99, 109, 97, 115, 99, 114, 105, 112, 116], [120, 45, 106, 97, 118, 97, 115, 99, 114, 105, 112, 116], [120, 45, 101, 99, 109, 97, 115, 99, 114, 105, 112, 116]]

theorem isL_eq {l x : List UInt8} (h : isL l x = true) : l = x := by unfold isL at h; simpa using h

theorem scr_ref (a m : List UInt8) : isScrV a m = ((icV a && (jsL.any fun x => isL m x)) || (isL a [116, 101, 120, 116] && isL m [106, 115, 99, 114, 105, 112, 116])) := by
  have hj : (jsL.any fun x => isL m x) = (isL m [106, 97, 118, 97, 115, 99, 114, 105, 112, 116] || (isL m [101, 99, 109, 97, 115, 99, 114, 105, 112, 116] || (isL m [120, 45, 106, 97, 118, 97, 115, 99, 114, 105, 112, 116] || isL m [120, 45, 101, 99, 109, 97, 115, 99, 114, 105, 112, 116]))) := by
    simp [jsL]
  unfold isScrV
  rw [hj]
  generalize hg : (isL m [106, 97, 118, 97, 115, 99, 114, 105, 112, 116] || (isL m [101, 99, 109, 97, 115, 99, 114, 105, 112, 116] || (isL m [120, 45, 106, 97, 118, 97, 115, 99, 114, 105, 112, 116] || isL m [120, 45, 101, 99, 109, 97, 115, 99, 114, 105, 112, 116]))) = g
  cases g with
  | false => simp [Bool.and_comm]
  | true =>
    have : isL m [106, 115, 99, 114, 105, 112, 116] = false := by
      simp only [Bool.or_eq_true] at hg
      rcases hg with h | h | h | h <;> (rw [isL_eq h]; decide)
    rw [this]; simp

set_option maxHeartbeats 8000000 in
set_option maxRecDepth 100000 in
theorem rgroup_any (a m : ByteArray) (x : Option Addr) (n c : Nat) (w : World) (hm : m.size ≤ 4000000000) :
    Calls Tryz.prog 23 #[.agg #[.string a, .string m, .slice x n c]] w fun e w' => e = .returned (.int .i64 (grpV a.data.toList m.data.toList)) ∧ Below w.heap.size w w' := by
  have HTx := hid (show TxAt ((w.alloc (.cells #[.string a, .string m, .slice x n c] 31)).alloc (.cells #[.string ⟨#[106, 97, 118, 97, 115, 99, 114, 105, 112, 116]⟩, .string ⟨#[101, 99, 109, 97, 115, 99, 114, 105, 112, 116]⟩, .string ⟨#[120, 45, 106, 97, 118, 97, 115, 99, 114, 105, 112, 116]⟩, .string ⟨#[120, 45, 101, 99, 109, 97, 115, 99, 114, 105, 112, 116]⟩] 9)) (.slice (some ⟨w.heap.size + 1, 0, none⟩) 4 4) jsL by
    have := tx_new6 (w.alloc (.cells #[.string a, .string m, .slice x n c] 31)) jsL 9 (by decide)
    rw [World.size_alloc] at this
    exact this)
  have HBf := hid (show Below w.heap.size w ((w.alloc (.cells #[.string a, .string m, .slice x n c] 31)).alloc (.cells #[.string ⟨#[106, 97, 118, 97, 115, 99, 114, 105, 112, 116]⟩, .string ⟨#[101, 99, 109, 97, 115, 99, 114, 105, 112, 116]⟩, .string ⟨#[120, 45, 106, 97, 118, 97, 115, 99, 114, 105, 112, 116]⟩, .string ⟨#[120, 45, 101, 99, 109, 97, 115, 99, 114, 105, 112, 116]⟩] 9)) from ((Below.refl _ w).alloc (Nat.le_refl _) _).alloc (by simp) _)
  have HBg := hid (show Below w.heap.size w (w.alloc (.cells #[.string a, .string m, .slice x n c] 31)) from (Below.refl _ w).alloc (Nat.le_refl _) _)
  have h1 := isL_to a [97, 112, 112, 108, 105, 99, 97, 116, 105, 111, 110]
  have h2 := isL_to a [116, 101, 120, 116]
  have h3 := isL_to m [106, 115, 99, 114, 105, 112, 116]
  have h4 := isL_to m [106, 115, 111, 110]
  have h5 := isL_to m [120, 109, 108]
  have h6 := isL_to a [105, 109, 97, 103, 101]
  have h7 := isL_to m [99, 115, 115]
  have h8 := isL_to a [97, 117, 100, 105, 111]
  have h9 := isL_to a [118, 105, 100, 101, 111]
  obtain ⟨jh, hjh⟩ : ∃ b, (jsL.any fun x => isL m.data.toList x) = b := ⟨_, rfl⟩
  obtain ⟨e1, he1⟩ : ∃ b, Lib.hasSuffix m.data.toList [43, 106, 115, 111, 110] = b := ⟨_, rfl⟩
  obtain ⟨e2, he2⟩ : ∃ b, Lib.hasSuffix m.data.toList [43, 120, 109, 108] = b := ⟨_, rfl⟩
  have HH : Hid (Calls Tryz.prog 45 #[.slice (some ⟨w.heap.size + 1, 0, none⟩) 4 4, .string m] ((w.alloc (.cells #[.string a, .string m, .slice x n c] 31)).alloc (.cells #[.string ⟨#[106, 97, 118, 97, 115, 99, 114, 105, 112, 116]⟩, .string ⟨#[101, 99, 109, 97, 115, 99, 114, 105, 112, 116]⟩, .string ⟨#[120, 45, 106, 97, 118, 97, 115, 99, 114, 105, 112, 116]⟩, .string ⟨#[120, 45, 101, 99, 109, 97, 115, 99, 114, 105, 112, 116]⟩] 9)) fun e w' => e = .returned (.bool jh) ∧ ((w.alloc (.cells #[.string a, .string m, .slice x n c] 31)).alloc (.cells #[.string ⟨#[106, 97, 118, 97, 115, 99, 114, 105, 112, 116]⟩, .string ⟨#[101, 99, 109, 97, 115, 99, 114, 105, 112, 116]⟩, .string ⟨#[120, 45, 106, 97, 118, 97, 115, 99, 114, 105, 112, 116]⟩, .string ⟨#[120, 45, 101, 99, 109, 97, 115, 99, 114, 105, 112, 116]⟩] 9)) = w') := by
    rw [← hjh]; exact rhas_any _ jsL m _ HTx.out (by decide)
  have HE1 : Hid (∀ w : World, Calls Tryz.prog 46 #[.string m, .string ⟨#[43, 106, 115, 111, 110]⟩] w fun e w' => e = .returned (.bool e1) ∧ w = w') := fun w => by
    rw [← he1]; exact ends_any m ⟨#[43, 106, 115, 111, 110]⟩ w hm (by decide)
  have HE2 : Hid (∀ w : World, Calls Tryz.prog 46 #[.string m, .string ⟨#[43, 120, 109, 108]⟩] w fun e w' => e = .returned (.bool e2) ∧ w = w') := fun w => by
    rw [← he2]; exact ends_any m ⟨#[43, 120, 109, 108]⟩ w hm (by decide)
  have hV : grpV a.data.toList m.data.toList = (if ((isL a.data.toList [97, 112, 112, 108, 105, 99, 97, 116, 105, 111, 110] || isL a.data.toList [116, 101, 120, 116]) && jh) || (isL a.data.toList [116, 101, 120, 116] && isL m.data.toList [106, 115, 99, 114, 105, 112, 116]) then 1 else if (isL m.data.toList [106, 115, 111, 110] && (isL a.data.toList [97, 112, 112, 108, 105, 99, 97, 116, 105, 111, 110] || isL a.data.toList [116, 101, 120, 116])) || e1 then 2 else if (isL m.data.toList [120, 109, 108] && (isL a.data.toList [97, 112, 112, 108, 105, 99, 97, 116, 105, 111, 110] || isL a.data.toList [116, 101, 120, 116])) || e2 then 3
      else if isL a.data.toList [105, 109, 97, 103, 101] then 4 else if isL a.data.toList [116, 101, 120, 116] && isL m.data.toList [99, 115, 115] then 5 else if isL a.data.toList [97, 117, 100, 105, 111] || isL a.data.toList [118, 105, 100, 101, 111] then 6 else 0) := by
    unfold grpV wrInV
    rw [scr_ref, hjh, he1, he2]; rfl
  have HV := hid hV
  clear hjh he1 he2 hV
  generalize isL a.data.toList [97, 112, 112, 108, 105, 99, 97, 116, 105, 111, 110] = qa at *
  generalize isL a.data.toList [116, 101, 120, 116] = qt at *
  generalize isL m.data.toList [106, 115, 99, 114, 105, 112, 116] = qj at *
  generalize isL m.data.toList [106, 115, 111, 110] = qn at *
  generalize isL m.data.toList [120, 109, 108] = qx at *
  generalize isL a.data.toList [105, 109, 97, 103, 101] = qi at *
  generalize isL m.data.toList [99, 115, 115] = qc at *
  generalize isL a.data.toList [97, 117, 100, 105, 111] = qu at *
  generalize isL a.data.toList [118, 105, 100, 101, 111] = qv at *
  cases qa with
  | true =>
    cases qt with
    | true =>
      go_enter Tryz.func23, Tryz.ntmps23
      go_wp2_with fail
      refine (HH.out).mono ?_
      rintro e w' ⟨rfl, rfl⟩
      cases jh with
      | true =>
        go_wp2
        go_ret
        rw [HV.out]
        first | exact ⟨rfl, HBf.out⟩ | exact ⟨by simp, HBg.out⟩
      | false =>
        cases qj with
        | true =>
          go_wp2
          go_ret
          rw [HV.out]
          first | exact ⟨rfl, HBf.out⟩ | exact ⟨by simp, HBg.out⟩
        | false =>
          cases qn with
          | true =>
            go_wp2
            go_ret
            rw [HV.out]
            first | exact ⟨rfl, HBf.out⟩ | exact ⟨by simp, HBg.out⟩
          | false =>
            go_wp2_with fail
            refine (HE1.out _).mono ?_
            rintro e w' ⟨rfl, rfl⟩
            cases e1 with
            | true =>
              go_wp2
              go_ret
              rw [HV.out]
              first | exact ⟨rfl, HBf.out⟩ | exact ⟨by simp, HBg.out⟩
            | false =>
              cases qx with
              | true =>
                go_wp2
                go_ret
                rw [HV.out]
                first | exact ⟨rfl, HBf.out⟩ | exact ⟨by simp, HBg.out⟩
              | false =>
                go_wp2_with fail
                refine (HE2.out _).mono ?_
                rintro e w' ⟨rfl, rfl⟩
                cases e2 with
                | true =>
                  go_wp2
                  go_ret
                  rw [HV.out]
                  first | exact ⟨rfl, HBf.out⟩ | exact ⟨by simp, HBg.out⟩
                | false =>
                  cases qi with
                  | true =>
                    go_wp2
                    go_ret
                    rw [HV.out]
                    first | exact ⟨rfl, HBf.out⟩ | exact ⟨by simp, HBg.out⟩
                  | false =>
                    cases qc with
                    | true =>
                      go_wp2
                      go_ret
                      rw [HV.out]
                      first | exact ⟨rfl, HBf.out⟩ | exact ⟨by simp, HBg.out⟩
                    | false =>
                      cases qu with
                      | true =>
                        go_wp2
                        go_ret
                        rw [HV.out]
                        first | exact ⟨rfl, HBf.out⟩ | exact ⟨by simp, HBg.out⟩
                      | false =>
                        cases qv with
                        | true =>
                          go_wp2
                          go_ret
                          rw [HV.out]
                          first | exact ⟨rfl, HBf.out⟩ | exact ⟨by simp, HBg.out⟩
                        | false =>
                          go_wp2
                          go_ret
                          rw [HV.out]
                          first | exact ⟨rfl, HBf.out⟩ | exact ⟨by simp, HBg.out⟩
    | false =>
      go_enter Tryz.func23, Tryz.ntmps23
      go_wp2_with fail
      refine (HH.out).mono ?_
      rintro e w' ⟨rfl, rfl⟩
      cases jh with
      | true =>
        go_wp2
        go_ret
        rw [HV.out]
        first | exact ⟨rfl, HBf.out⟩ | exact ⟨by simp, HBg.out⟩
      | false =>
        cases qn with
        | true =>
          go_wp2
          go_ret
          rw [HV.out]
          first | exact ⟨rfl, HBf.out⟩ | exact ⟨by simp, HBg.out⟩
        | false =>
          go_wp2_with fail
          refine (HE1.out _).mono ?_
          rintro e w' ⟨rfl, rfl⟩
          cases e1 with
          | true =>
            go_wp2
            go_ret
            rw [HV.out]
            first | exact ⟨rfl, HBf.out⟩ | exact ⟨by simp, HBg.out⟩
          | false =>
            cases qx with
            | true =>
              go_wp2
              go_ret
              rw [HV.out]
              first | exact ⟨rfl, HBf.out⟩ | exact ⟨by simp, HBg.out⟩
            | false =>
              go_wp2_with fail
              refine (HE2.out _).mono ?_
              rintro e w' ⟨rfl, rfl⟩
              cases e2 with
              | true =>
                go_wp2
                go_ret
                rw [HV.out]
                first | exact ⟨rfl, HBf.out⟩ | exact ⟨by simp, HBg.out⟩
              | false =>
                cases qi with
                | true =>
                  go_wp2
                  go_ret
                  rw [HV.out]
                  first | exact ⟨rfl, HBf.out⟩ | exact ⟨by simp, HBg.out⟩
                | false =>
                  cases qu with
                  | true =>
                    go_wp2
                    go_ret
                    rw [HV.out]
                    first | exact ⟨rfl, HBf.out⟩ | exact ⟨by simp, HBg.out⟩
                  | false =>
                    cases qv with
                    | true =>
                      go_wp2
                      go_ret
                      rw [HV.out]
                      first | exact ⟨rfl, HBf.out⟩ | exact ⟨by simp, HBg.out⟩
                    | false =>
                      go_wp2
                      go_ret
                      rw [HV.out]
                      first | exact ⟨rfl, HBf.out⟩ | exact ⟨by simp, HBg.out⟩
  | false =>
    cases qt with
    | true =>
      go_enter Tryz.func23, Tryz.ntmps23
      go_wp2_with fail
      refine (HH.out).mono ?_
      rintro e w' ⟨rfl, rfl⟩
      cases jh with
      | true =>
        go_wp2
        go_ret
        rw [HV.out]
        first | exact ⟨rfl, HBf.out⟩ | exact ⟨by simp, HBg.out⟩
      | false =>
        cases qj with
        | true =>
          go_wp2
          go_ret
          rw [HV.out]
          first | exact ⟨rfl, HBf.out⟩ | exact ⟨by simp, HBg.out⟩
        | false =>
          cases qn with
          | true =>
            go_wp2
            go_ret
            rw [HV.out]
            first | exact ⟨rfl, HBf.out⟩ | exact ⟨by simp, HBg.out⟩
          | false =>
            go_wp2_with fail
            refine (HE1.out _).mono ?_
            rintro e w' ⟨rfl, rfl⟩
            cases e1 with
            | true =>
              go_wp2
              go_ret
              rw [HV.out]
              first | exact ⟨rfl, HBf.out⟩ | exact ⟨by simp, HBg.out⟩
            | false =>
              cases qx with
              | true =>
                go_wp2
                go_ret
                rw [HV.out]
                first | exact ⟨rfl, HBf.out⟩ | exact ⟨by simp, HBg.out⟩
              | false =>
                go_wp2_with fail
                refine (HE2.out _).mono ?_
                rintro e w' ⟨rfl, rfl⟩
                cases e2 with
                | true =>
                  go_wp2
                  go_ret
                  rw [HV.out]
                  first | exact ⟨rfl, HBf.out⟩ | exact ⟨by simp, HBg.out⟩
                | false =>
                  cases qi with
                  | true =>
                    go_wp2
                    go_ret
                    rw [HV.out]
                    first | exact ⟨rfl, HBf.out⟩ | exact ⟨by simp, HBg.out⟩
                  | false =>
                    cases qc with
                    | true =>
                      go_wp2
                      go_ret
                      rw [HV.out]
                      first | exact ⟨rfl, HBf.out⟩ | exact ⟨by simp, HBg.out⟩
                    | false =>
                      cases qu with
                      | true =>
                        go_wp2
                        go_ret
                        rw [HV.out]
                        first | exact ⟨rfl, HBf.out⟩ | exact ⟨by simp, HBg.out⟩
                      | false =>
                        cases qv with
                        | true =>
                          go_wp2
                          go_ret
                          rw [HV.out]
                          first | exact ⟨rfl, HBf.out⟩ | exact ⟨by simp, HBg.out⟩
                        | false =>
                          go_wp2
                          go_ret
                          rw [HV.out]
                          first | exact ⟨rfl, HBf.out⟩ | exact ⟨by simp, HBg.out⟩
    | false =>
      go_enter Tryz.func23, Tryz.ntmps23
      go_wp2_with fail
      refine (HE1.out _).mono ?_
      rintro e w' ⟨rfl, rfl⟩
      cases e1 with
      | true =>
        go_wp2
        go_ret
        rw [HV.out]
        first | exact ⟨rfl, HBf.out⟩ | exact ⟨by simp, HBg.out⟩
      | false =>
        go_wp2_with fail
        refine (HE2.out _).mono ?_
        rintro e w' ⟨rfl, rfl⟩
        cases e2 with
        | true =>
          go_wp2
          go_ret
          rw [HV.out]
          first | exact ⟨rfl, HBf.out⟩ | exact ⟨by simp, HBg.out⟩
        | false =>
          cases qi with
          | true =>
            go_wp2
            go_ret
            rw [HV.out]
            first | exact ⟨rfl, HBf.out⟩ | exact ⟨by simp, HBg.out⟩
          | false =>
            cases qu with
            | true =>
              go_wp2
              go_ret
              rw [HV.out]
              first | exact ⟨rfl, HBf.out⟩ | exact ⟨by simp, HBg.out⟩
            | false =>
              cases qv with
              | true =>
                go_wp2
                go_ret
                rw [HV.out]
                first | exact ⟨rfl, HBf.out⟩ | exact ⟨by simp, HBg.out⟩
              | false =>
                go_wp2
                go_ret
                rw [HV.out]
                first | exact ⟨rfl, HBf.out⟩ | exact ⟨by simp, HBg.out⟩

end Go.Proofs.YtiemggepdeaogaaGreatDoor
