/-
  The walk of infra.Base64 once more, with the room that it asks for: what it decodes fits, and the room stays as it was made.
-/
import Derived.Test.YthmhljnfjjblcaaWd
set_option linter.unusedSimpArgs false
set_option linter.unusedVariables false
namespace Go.Proofs.Ythmhljnfjjblcaa
open Go.RowKit

theorem run64_bits (l : List UInt8) : 8 * (run64 l).2.2.length + (run64 l).2.1 = 6 * l.length := by
  suffices h : ∀ (l : List UInt8) (t : Nat × Nat × List UInt8), 8 * (l.foldl step64 t).2.2.length + (l.foldl step64 t).2.1 = 8 * t.2.2.length + t.2.1 + 6 * l.length by simpa [run64] using h l (0, 0, [])
  intro l
  induction l with
  | nil => intro t; simp
  | cons c l ih =>
    intro t
    rw [List.foldl_cons, ih]
    obtain ⟨N, H, O⟩ := t
    unfold step64
    simp only [List.length_cons]
    split
    · simp only [List.length_append, List.length_singleton]; omega
    · simp only; omega

set_option maxHeartbeats 2000000 in
theorem base64_fit (s : ByteArray) (w : World) (hs : s.size ≤ 140737488351232) :
    Calls Try.prog 12 #[.string s] w fun e w' => Below w.heap.size w w' ∧
      ((b64 s.data.toList = none ∧ e = .returned (.tuple #[.slice none 0 0, .bool false])) ∨
       ∃ l g cap, b64 s.data.toList = some l ∧ cap ≤ s.size ∧ e = .returned (.tuple #[.slice (some ⟨g, 0, none⟩) l.length cap, .bool true]) ∧ w'.ownsRow w.heap.size 5 1 (.slice (some ⟨g, 0, none⟩) l.length cap) l.length (Lib.byteCells l)) := by
  obtain ⟨i0, hi, hz0, hz1, hz2⟩ := info_parts infoByte
  go_enter Try.func12, Try.ntmps12
  go_wp2_with fail
  refine (withoutBlanks_any s w hs).mono ?_
  rintro e w1 ⟨rfl, hb1⟩
  go_wp2_with fail
  refine (withoutPadding_any _ w1 (by show (noBlanks s.data.toList).toArray.size ≤ _; have := noBlanks_le s.data.toList; simp at this ⊢; omega)).mono ?_
  rintro e w2 ⟨rfl, rfl⟩
  obtain ⟨d, hd⟩ : ∃ d : ByteArray, d = (⟨(noPadding (ByteArray.mk (noBlanks s.data.toList).toArray).data.toList).toArray⟩ : ByteArray) := ⟨_, rfl⟩
  rw [← hd]
  have hdd : d.data.toList = noPadding (noBlanks s.data.toList) := by rw [hd]
  have hds : d.size ≤ s.size := by
    have h1 := b64_bounds s.data.toList
    rw [← hdd] at h1
    simpa using h1
  have hdl : d.size ≤ 140737488351232 := by
    have h1 := b64_bounds s.data.toList
    rw [← hdd] at h1
    simp at h1
    omega
  have HB : Hid (b64 s.data.toList = if d.data.toList.length % 4 = 1 then none else if d.data.toList.all is64 then some (run64 d.data.toList).2.2 else none) := by rw [hdd]; rfl
  clear hd hdd
  by_cases h1 : d.size % 4 = 1
  · have h1' : ((d.size : Int) % 4 == 1) = true := by simp; omega
    go_wp2
    go_ret2
    refine ⟨hb1, .inl ⟨?_, rfl⟩⟩
    rw [HB.out]; simp [h1]
  · have h1' : ((d.size : Int) % 4 == 1) = false := by simp; omega
    go_wp2_with (at_make; refine wpList_make_own _ rfl _ _ 22 rfl w.heap.size 5 i0 (.int .u8 0) 1 Try.underlying22 hi hz0 hz1 .i64 .i64 _ (d.size / 4 * 3 + d.size % 4 * 3 / 4) rfl rfl (by omega) (by rw [hz2]; omega) (by unfold maxLen; omega) hb1.size ?_)
    intro w3 hown0 hgrow0
    have hb3 : Below w.heap.size w w3 := hb1.grown hgrow0 hb1.size (fun k hk => by simp at hk)
    clear hgrow0 hb1
    obtain ⟨K, hK⟩ : ∃ K : Nat, K = d.size / 4 * 3 + d.size % 4 * 3 / 4 := ⟨_, rfl⟩
    have hKK : 4 * K ≤ 3 * d.size ∧ 3 * d.size < 4 * K + 4 := by omega
    rw [← hK] at hown0 ⊢
    clear hK
    generalize w1.heap.size = g0 at hown0 ⊢
    go_wp2
    go_loopw [4, 5, 6, 30] (fun v b h i wr => ∃ k n : Nat, k ≤ d.size ∧ i = .int .i64 k ∧ h = .int .i64 (run64 (d.data.toList.take k)).2.1 ∧ b = .int .u32 n ∧ n = (run64 (d.data.toList.take k)).1 % 4294967296 ∧
        v = .slice (some ⟨g0, 0, none⟩) (run64 (d.data.toList.take k)).2.2.length K ∧ wr.ownsRow w.heap.size 5 1 (.slice (some ⟨g0, 0, none⟩) (run64 (d.data.toList.take k)).2.2.length K) (run64 (d.data.toList.take k)).2.2.length (Lib.byteCells (run64 (d.data.toList.take k)).2.2) ∧ (d.data.toList.take k).all is64 = true ∧ Below w.heap.size w wr)
      (fun _ _ _ i _ => d.size - (intOf i).toNat)
    case atStart => exact ⟨0, 0, Nat.zero_le _, rfl, rfl, rfl, rfl, rfl, hown0, rfl, hb3⟩
    case round =>
      obtain ⟨k, n, hk, rfl, rfl, rfl, hn, rfl, hown, hall, hbw⟩ := hrel
      have hn32 : n ≤ 4294967295 := by omega
      have hh := run64_held (d.data.toList.take k)
      have hle := run64_len (d.data.toList.take k)
      have hbt := run64_bits (d.data.toList.take k)
      have htl : (d.data.toList.take k).length ≤ k := List.length_take_le _ _
      by_cases hlt : k < d.size
      · have HT := hid (take_snoc d k hlt)
        have HA := hid hall
        clear hall
        have HS := hid (run64_snoc (d.data.toList.take k) d[k])
        have ho0 := or64 (run64 (d.data.toList.take k)).1 d[k].toNat
        rw [← hn] at ho0
        have HO := hid ho0
        clear ho0
        generalize hr : run64 (d.data.toList.take k) = R at *
        obtain ⟨N, H, O⟩ := R
        have HR := hid hr
        clear hr
        simp only at hown hh hle hbt HO hn
        have HN := hid hn
        clear hn
        obtain ⟨m, hm⟩ : ∃ m : Nat, m = (N * 64 + (val64I d[k].toNat).toNat) % 4294967296 := ⟨_, rfl⟩
        have HM := hid hm
        have ho : bits .or .u32 ((n : Int) * 64 % 4294967296) (val64I d[k].toNat) = (m : Int) := by rw [hm]; exact HO.out
        clear hm
        by_cases h64 : is64I (d[k].toNat : Int) = true
        · by_cases hH : 2 ≤ H
          · have hHI : (8 : Int) ≤ (H : Int) + 6 := by omega
            have HX : Hid ((m : Int) / 2 ^ (H - 2) % 256 = ((UInt8.ofNat ((N * 64 + (val64I d[k].toNat).toNat) / 2 ^ (H - 2))).toNat : Int)) := by rw [HM.out]; exact shr64 _ _ (by omega)
            go_wp2_with (first | (go_at_call 42; refine (value64_any _ _ (by omega) (by have := d[k].toNat_lt; omega)).mono ?_; rintro e w' ⟨rfl, rfl⟩) | (at_builtin; refine wpList_append_fits _ rfl _ _ 22 rfl w.heap.size 5 i0 1 Try.underlying22 hi hz1 g0 O.length K (Lib.byteCells O) rfl (hown.alloc _) ⟨wr.heap.size, 0, none⟩ 1 1 [.int .u8 ((m : Int) / 2 ^ (H - 2) % 256)] rfl rfl ?c1 ?c2 ?c3 ?_))
            case c1 =>
              intro j u hj
              match j, hj with
              | 0, hj => simp at hj; subst hj; simp [Addr.add]
            case c2 => intro u hu; simp at hu; subst hu; rfl
            case c3 => omega
            intro w4 hown' hgrow
            have hst : run64 (d.data.toList.take (k + 1)) = (N * 64 + (val64I d[k].toNat).toNat, H - 2, O ++ [UInt8.ofNat ((N * 64 + (val64I d[k].toNat).toNat) / 2 ^ (H - 2))]) := by
              rw [HT.out, HS.out, step64, if_pos hH]
            have HSt := hid hst
            clear hst
            go_wp2
            go_roundw
            case rel =>
              refine ⟨k + 1, m, by omega, by go_num, ?_, rfl, ?_, ?_, ?_, ?_, ?_⟩
              · rw [HSt.out]; go_num
              · rw [HSt.out]; exact HM.out
              · rw [HSt.out]; simp
              · rw [HSt.out, Lib.byteCells_append, byteCells_one, ← HX.out]; simpa using hown'
              · rw [HT.out, List.all_append, HA.out]; simp [is64, h64]
              · exact (hbw.alloc hbw.size _).grown hgrow (by have := hbw.size; simp; omega) (fun g hg => (hown.lt g hg).1)
            case measure => simp [intOf]; omega
          · have hHI : (H : Int) + 6 < 8 := by omega
            have hst : run64 (d.data.toList.take (k + 1)) = (N * 64 + (val64I d[k].toNat).toNat, H + 6, O) := by
              rw [HT.out, HS.out, step64, if_neg hH]
            have HSt := hid hst
            clear hst
            go_wp2_with (go_at_call 42; refine (value64_any _ _ (by omega) (by have := d[k].toNat_lt; omega)).mono ?_; rintro e w' ⟨rfl, rfl⟩)
            go_roundw
            case rel =>
              refine ⟨k + 1, m, by omega, by go_num, ?_, rfl, ?_, ?_, ?_, ?_, hbw⟩
              · rw [HSt.out]; go_num
              · rw [HSt.out]; exact HM.out
              · rw [HSt.out]
              · rw [HSt.out]; exact hown
              · rw [HT.out, List.all_append, HA.out]; simp [is64, h64]
            case measure => simp [intOf]; omega
        · have h64' : is64I (d[k].toNat : Int) = false := by simpa using h64
          clear h64
          go_wp2_with (go_at_call 42; refine (value64_any _ _ (by omega) (by have := d[k].toNat_lt; omega)).mono ?_; rintro e w' ⟨rfl, rfl⟩)
          go_ret2
          refine ⟨hbw, .inl ⟨?_, rfl⟩⟩
          rw [HB.out]
          have : d.data.toList.all is64 = false := by
            rw [List.all_eq_false]
            refine ⟨d[k], ?_, by simp [is64, h64']⟩
            have : d[k] = d.data.toList[k]'(by simpa using hlt) := rfl
            rw [this]; exact List.getElem_mem _
          simp [h1, this]
      · rw [take_all d k hlt] at hown hall ⊢
        go_wp2
        go_ret2
        refine ⟨hbw, .inr ⟨_, g0, K, ?_, by omega, rfl, hown⟩⟩
        rw [HB.out]; simp [h1, hall]

end Go.Proofs.Ythmhljnfjjblcaa
