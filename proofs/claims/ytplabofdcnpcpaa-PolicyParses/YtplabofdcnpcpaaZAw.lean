/-
  The walk of the document's own Cut.
-/
import Derived.Test.YtplabofdcnpcpaaZAv
import Derived.Test.YtplabofdcnpcpaaZAt
import Derived.LoopN
set_option linter.unusedSimpArgs false
set_option linter.unusedVariables false
namespace Go.Proofs.Ytplabofdcnpcpaa
open Go.RowKit

theorem ext_take10 (s : ByteArray) (j k : Nat) : (s.extract j k).data.toList = (s.data.toList.drop j).take (k - j) := Lib.extract_data _ _ _
theorem drop_split10 (s : ByteArray) (j k : Nat) (hj : j ≤ k) (hk : k < s.size) : s.data.toList.drop j = (s.extract j k).data.toList ++ s[k] :: s.data.toList.drop (k + 1) := by
  rw [Lib.extract_data]
  have h1 : s.data.toList.drop j = (s.data.toList.drop j).take (k - j) ++ (s.data.toList.drop j).drop (k - j) := (List.take_append_drop _ _).symm
  have h2 : s.data.toList.drop k = s[k] :: s.data.toList.drop (k + 1) := List.drop_eq_getElem_cons (l := s.data.toList) (i := k) (by simpa using hk)
  rw [List.drop_drop, show j + (k - j) = k by omega, h2] at h1
  exact h1

set_option maxHeartbeats 2000000 in
set_option maxRecDepth 100000 in
theorem rcut10 (s : ByteArray) (c : UInt8) (w : World) (hs : s.size ≤ 1000000) :
    Calls Try.prog 37 #[.string s, .int .u8 (c.toNat : Int)] w (OwnT (pcV c s.data.toList) w) := by
  obtain ⟨i0, hi, hz0, hz1, hz2⟩ := info_parts infoS10
  have hc8 := c.toNat_lt
  go_enter Try.func37, Try.ntmps37
  go_wp2
  go_loopw [5, 6, 7] (fun v fr i wr => ∃ (k j : Nat) (out : List (List UInt8)), j ≤ k ∧ k ≤ s.size + 1 ∧ i = .int .i64 k ∧ fr = .int .i64 j ∧ out.length ≤ k ∧ wr.ownsRow w.heap.size 9 1 v out.length (cellsT out) ∧ Below w.heap.size w wr ∧
      ((k ≤ s.size ∧ pcV c s.data.toList = out ++ pcV c (s.data.toList.drop j) ∧ c ∉ (s.extract j k).data.toList) ∨ (k = s.size + 1 ∧ out = pcV c s.data.toList)))
    (fun _ _ i _ => s.size + 1 - (intOf i).toNat)
  case atStart => exact ⟨0, 0, [], Nat.le_refl _, by omega, rfl, rfl, Nat.le_refl _, World.ownsRow_nil _ _ _ _, Below.refl _ w, .inl ⟨by omega, rfl, by rw [ext_take10]; simp⟩⟩
  case round =>
    obtain ⟨k, j, out, hjk, hk, rfl, rfl, hol, hown, hbw, hor⟩ := hrel
    have HO := hid hown
    clear hown
    have hbs := hbw.size
    rcases hor with ⟨hks, hcut, hno⟩ | ⟨hks, hout⟩
    · have HC := hid hcut
      have HN := hid hno
      clear hcut hno
      have hks' : (k : Int) ≤ (s.size : Int) := by omega
      have hjk' : (j : Int) ≤ (k : Int) := by omega
      obtain ⟨X, hX⟩ : ∃ X : ByteArray, X = s.extract j k := ⟨_, rfl⟩
      by_cases hlt : k < s.size
      · have hlt' : ((k : Int) == (s.size : Int)) = false := by rw [beq_eq_false_iff_ne]; omega
        have hb8 : s[k].toNat < 256 := s[k].toNat_lt
        have HD := hid (drop_split10 s j k hjk hlt)
        by_cases he : s[k] = c
        · have he' : (s[k].toNat : Int) = (c.toNat : Int) := by rw [he]
          have HE := hid he
          have HX := hid hX
          clear hX he
          go_wp2_with (at_builtin; go_must (refine wpList_append_own _ rfl _ _ 22 rfl w.heap.size 9 i0 (.string ⟨#[]⟩) 1 16 Try.underlying22 hi hz0 hz1 hz2 rfl (by decide) _ _ _ rfl (HO.out.alloc _) ⟨wr.heap.size, 0, none⟩ 1 1 [.string (s.extract j k)] rfl rfl ?c1 ?c2 ?c3 ?c4 ?c5 ?_))
          case c1 =>
            intro q u hq
            match q, hq with
            | 0, hq => simp at hq; subst hq; simp [Addr.add]
          case c2 => intro u hu; simp at hu; subst hu; rfl
          case c3 => unfold maxLen; omega
          case c4 => omega
          case c5 => simp; omega
          intro v' w2 hown' hgrow hnil
          have HO2 := hid hown'
          have HB2 := hid (show Below w.heap.size w w2 from (hbw.alloc hbw.size _).grown hgrow (by simp; omega) (fun g hg => (HO.out.lt g hg).1))
          clear hown' hgrow hnil
          go_wp2
          go_roundw
          case rel =>
            refine ⟨k + 1, k + 1, out ++ [(s.extract j k).data.toList], by omega, by omega, by go_num, by go_num, by simp; omega, ?_, HB2.out, .inl ⟨by omega, ?_, by rw [ext_take10]; simp⟩⟩
            · rw [cellsT_app, cellsT_one, List.length_append]
              exact HO2.out
            · have h1 := HC.out
              rw [HD.out, HE.out, pcV_some c _ _ HN.out] at h1
              rw [h1]; simp
          case measure => simp [intOf]; omega
        · have he' : ((s[k].toNat : Int) == (c.toNat : Int)) = false := by
            rw [beq_eq_false_iff_ne]
            intro e
            exact he (UInt8.toNat_inj.1 (by omega))
          have HE := hid he
          clear he hX
          go_wp2
          go_roundw
          case rel =>
            refine ⟨k + 1, j, out, by omega, by omega, by go_num, rfl, by omega, HO.out, hbw, .inl ⟨by omega, HC.out, ?_⟩⟩
            rw [ext_take10, show k + 1 - j = (k - j) + 1 by omega, List.take_add_one]
            have h2 := HN.out
            rw [ext_take10] at h2
            rw [List.mem_append]
            rintro (h | h)
            · exact h2 h
            · rw [List.getElem?_drop, show j + (k - j) = k by omega] at h
              have h3 : s.data.toList[k]? = some s[k] := by
                rw [List.getElem?_eq_getElem (by simpa using hlt)]; rfl
              rw [h3] at h
              simp at h
              exact HE.out h.symm
          case measure => simp [intOf]; omega
      · have hke : k = s.size := by omega
        subst hke
        have HX := hid hX
        clear hX
        go_wp2_with (at_builtin; go_must (refine wpList_append_own _ rfl _ _ 22 rfl w.heap.size 9 i0 (.string ⟨#[]⟩) 1 16 Try.underlying22 hi hz0 hz1 hz2 rfl (by decide) _ _ _ rfl (HO.out.alloc _) ⟨wr.heap.size, 0, none⟩ 1 1 [.string (s.extract j s.size)] rfl rfl ?c1 ?c2 ?c3 ?c4 ?c5 ?_))
        case c1 =>
          intro q u hq
          match q, hq with
          | 0, hq => simp at hq; subst hq; simp [Addr.add]
        case c2 => intro u hu; simp at hu; subst hu; rfl
        case c3 => unfold maxLen; omega
        case c4 => omega
        case c5 => simp; omega
        intro v' w2 hown' hgrow hnil
        have HO2 := hid hown'
        have HB2 := hid (show Below w.heap.size w w2 from (hbw.alloc hbw.size _).grown hgrow (by simp; omega) (fun g hg => (HO.out.lt g hg).1))
        clear hown' hgrow hnil
        go_wp2
        go_roundw
        case rel =>
          refine ⟨s.size + 1, s.size + 1, out ++ [(s.extract j s.size).data.toList], by omega, by omega, by go_num, by go_num, by simp; omega, ?_, HB2.out, .inr ⟨rfl, ?_⟩⟩
          · rw [cellsT_app, cellsT_one, List.length_append]
            exact HO2.out
          · have h1 := HC.out
            have e : (s.extract j s.size).data.toList = s.data.toList.drop j := by rw [ext_take10]; exact List.take_of_length_le (by simp)
            rw [e]
            have h2 := HN.out
            rw [e] at h2
            rw [pcV_none c _ h2] at h1
            exact h1.symm
        case measure => simp [intOf]
    · subst hks
      have hks' : ¬ (((s.size + 1 : Nat) : Int) ≤ (s.size : Int)) := by omega
      have HX := hid hout
      clear hout
      go_wp2
      go_ret
      unfold OwnT
      rw [← HX.out]
      exact ⟨_, rfl, HO.out, hbw⟩



end Go.Proofs.Ytplabofdcnpcpaa
