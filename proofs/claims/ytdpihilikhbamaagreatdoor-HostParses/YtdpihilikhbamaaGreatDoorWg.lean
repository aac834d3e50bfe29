/-
  The walks of infra.percented and infra.Unpercent.
-/
import Derived.Test.YtdpihilikhbamaaGreatDoorWb
import Derived.Test.YtdpihilikhbamaaGreatDoorWa
import Derived.Test.YtdpihilikhbamaaGreatDoorSh
import Derived.Test.YtdpihilikhbamaaGreatDoorPe
set_option linter.unusedSimpArgs false
set_option linter.unusedVariables false
namespace Go.Proofs.YtdpihilikhbamaaGreatDoor
open Go.RowKit

theorem ret_pcd {a : UInt8} {x : Int} {p : UInt8 × Bool} {b : Bool} (h : p = (a, b)) (e : (a.toNat : Int) = x) : Ending.returned (.tuple #[.int .u8 x, .bool b]) = .returned (.tuple #[.int .u8 p.1.toNat, .bool p.2]) := by
  rw [h, ← e]

set_option maxHeartbeats 1000000 in
theorem percented_any (s : ByteArray) (w : World) (h0 : 0 < s.size) (hs : s.size ≤ 140737488351232) :
    Calls Tryz.prog 49 #[.string s] w fun e w' => e = .returned (.tuple #[.int .u8 (pcd s.data.toList).1.toNat, .bool (pcd s.data.toList).2]) ∧ w = w' := by
  by_cases h3 : s.size < 3
  · have h3' : (s.size : Int) < 3 := by omega
    go_enter Tryz.func49, Tryz.ntmps49
    go_wp2
    go_ret2
    obtain ⟨r, hr⟩ := list_one s h0
    refine ⟨ret_pcd ?_ rfl, rfl⟩
    rw [hr]
    refine pcd_short _ _ ?_
    rw [← hr]; simpa using h3
  · have h3' : (3 : Int) ≤ (s.size : Int) := by omega
    obtain ⟨r, hr⟩ := list_three s (by omega)
    have HR := hid hr
    clear hr
    by_cases h37 : s[0] = 37
    · have h37' : (((s[0]).toNat : Int) != 37) = false := by rw [h37]; rfl
      have HP : Hid (pcd s.data.toList = if is16I s[1].toNat && is16I s[2].toNat then (UInt8.ofNat (val16I s[1].toNat * 16 + val16I s[2].toNat).toNat, true) else (37, false)) := by
        rw [HR.out, h37]; exact pcd_three _ _ _
      have H37 := hid h37
      clear h37
      have hv := val16_lt s[1].toNat
      have ho := or16 s[1].toNat s[2].toNat
      have hl1 : s[1].toNat < 256 := s[1].toNat_lt
      have hl2 : s[2].toNat < 256 := s[2].toNat_lt
      by_cases ha : is16I (s[1].toNat : Int) = true
      · by_cases hb : is16I (s[2].toNat : Int) = true
        · go_enter Tryz.func49, Tryz.ntmps49
          go_wp2_with (go_at_call 70; refine (value16_any _ _ (by omega) (by omega)).mono ?_; rintro e w' ⟨rfl, rfl⟩)
          go_ret2
          refine ⟨ret_pcd (by rw [HP.out, ha, hb]; rfl) ?_, rfl⟩
          simp
        · have hb' : is16I (s[2].toNat : Int) = false := by simpa using hb
          clear hb
          go_enter Tryz.func49, Tryz.ntmps49
          go_wp2_with (go_at_call 70; refine (value16_any _ _ (by omega) (by omega)).mono ?_; rintro e w' ⟨rfl, rfl⟩)
          go_ret2
          refine ⟨ret_pcd (by rw [HP.out, ha, hb']; rfl) ?_, rfl⟩
          rw [H37.out]
      · have ha' : is16I (s[1].toNat : Int) = false := by simpa using ha
        clear ha
        go_enter Tryz.func49, Tryz.ntmps49
        go_wp2_with (go_at_call 70; refine (value16_any _ _ (by omega) (by omega)).mono ?_; rintro e w' ⟨rfl, rfl⟩)
        go_ret2
        refine ⟨ret_pcd (by rw [HP.out, ha']; rfl) ?_, rfl⟩
        rw [H37.out]
    · have h37' : (((s[0]).toNat : Int) != 37) = true := by
        rw [bne_iff_ne]
        intro e
        apply h37
        have : s[0].toNat = 37 := by omega
        exact UInt8.toNat_inj.1 this
      have H37 := hid h37
      clear h37
      go_enter Tryz.func49, Tryz.ntmps49
      go_wp2
      go_ret2
      refine ⟨ret_pcd ?_ rfl, rfl⟩
      rw [HR.out]
      exact pcd_other _ _ H37.out

set_option maxHeartbeats 1000000 in
theorem unpercent_any (s : ByteArray) (w : World) (hs : s.size ≤ 140737488351232) :
    Calls Tryz.prog 19 #[.string s] w fun e w' => e = .returned (.string ⟨(unpct s.data.toList).toArray⟩) ∧ Below w.heap.size w w' := by
  go_enter Tryz.func19, Tryz.ntmps19
  go_wp2
  go_loopw [4] (fun i wr => ∃ (k : Nat) (acc : List UInt8), k ≤ s.size ∧ i = .int .i64 k ∧ Lib.IsBuilderF 71 5 w.heap.size w.heap.size (Lib.byteCells acc) wr ∧ Below w.heap.size w wr ∧ acc ++ unpct (s.data.toList.drop k) = unpct s.data.toList ∧ acc.length ≤ k)
    (fun i _ => s.size - (intOf i).toNat)
  case atStart =>
    exact ⟨0, [], Nat.zero_le _, rfl, Lib.IsBuilderF.of (Lib.fresh_isBuilder 71 5 w), (Below.refl _ w).alloc (Nat.le_refl _) _, rfl, Nat.le_refl _⟩
  case round =>
    obtain ⟨k, acc, hk, rfl, hI, hbw, hacc, hal⟩ := hrel
    have HA := hid hacc
    clear hacc
    by_cases hlt : k < s.size
    · have HD := hid (drop_cons s k hlt)
      have HU := hid (unpct_cons s[k] (s.data.toList.drop (k + 1)))
      have hex := extract_drop s k
      have hes : (s.extract k s.size).size = s.size - k := by simp
      have HE := hid hex
      have hct := percented_any (s.extract k s.size) wr (by omega) (by omega)
      rw [hex] at hct
      have HC := hid hct
      clear hct hex
      have hlen : (pcd (s.data.toList.drop k)).2 = true → k + 3 ≤ s.size := fun h => by
        have := pcd_len _ h
        simp at this
        omega
      have HL := hid hlen
      clear hlen
      by_cases hok : (pcd (s.data.toList.drop k)).2 = true
      · have h3 := HL.out hok
        go_wp2_with (go_at_call 49; refine HC.out.mono ?_; rintro e w' ⟨rfl, rfl⟩)
        refine (writeByte_k w.heap.size w.heap.size _ _ _ hI (by rw [Lib.byteCells_length]; omega) hbw.size).mono ?_
        rintro e w1 ⟨rfl, h1, b1, _⟩
        go_wp2
        go_roundw
        case rel =>
          refine ⟨k + 3, acc ++ [(pcd (s.data.toList.drop k)).1], by omega, by go_num, ?_, hbw.trans b1, ?_, by simp; omega⟩
          · rw [Lib.byteCells_append]; exact .inr h1
          · rw [← HA.out, HD.out, HU.out, ← HD.out, if_pos hok, List.drop_drop, List.append_assoc]; rfl
        case measure => simp [intOf]; omega
      · have hok' : (pcd (s.data.toList.drop k)).2 = false := by simpa using hok
        go_wp2_with (go_at_call 49; refine HC.out.mono ?_; rintro e w' ⟨rfl, rfl⟩)
        refine (writeByte_k w.heap.size w.heap.size _ _ _ hI (by rw [Lib.byteCells_length]; omega) hbw.size).mono ?_
        rintro e w1 ⟨rfl, h1, b1, _⟩
        go_wp2
        go_roundw
        case rel =>
          refine ⟨k + 1, acc ++ [(pcd (s.data.toList.drop k)).1], by omega, by go_num, ?_, hbw.trans b1, ?_, by simp; omega⟩
          · rw [Lib.byteCells_append]; exact .inr h1
          · rw [← HA.out, HD.out, HU.out, ← HD.out, if_neg hok, List.append_assoc]; rfl
        case measure => simp [intOf]; omega
    · have hd := drop_none s k hlt
      have he : acc = unpct s.data.toList := by rw [← HA.out, hd]; simp [unpct, unpctN]
      rw [he] at hI
      clear hd he
      go_wp2_with (go_at_call 51; refine (Tryz.Builder_String_any_k w.heap.size w.heap.size _ _ hI hbw.size).mono ?_)
      rintro e w1 ⟨rfl, _, b1, _⟩
      go_wp2
      go_ret
      exact ⟨rfl, hbw.trans b1⟩

end Go.Proofs.YtdpihilikhbamaaGreatDoor
