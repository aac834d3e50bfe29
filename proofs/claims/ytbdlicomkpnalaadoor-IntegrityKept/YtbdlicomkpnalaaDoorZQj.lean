/-
  The walk of the law IntegrityKept.
-/
import Derived.Test.YtbdlicomkpnalaaDoorZQi
set_option linter.unusedSimpArgs false
set_option linter.unusedVariables false
namespace Go.Proofs.YtbdlicomkpnalaaDoor
open Go.RowKit

set_option maxHeartbeats 4000000 in
set_option maxRecDepth 100000 in
theorem integrityKept_walk (s0 : ByteArray) (w : World) (hs0 : s0.size ≤ 140737488351232) (hg : Gt w) (hm : Gm w) :
    Calls Tryd.prog 7 #[.string s0] w fun e w' => e = .returned (.bool true) ∧ Below w.heap.size w w' := by
  have HG := hid hg
  have HM := hid hm
  have HFS := hid (fun X => few9_any s0 300 X (by decide) (by omega))
  obtain ⟨s, hs⟩ : ∃ s : ByteArray, s = ⟨(s0.data.toList.take 300).toArray⟩ := ⟨_, rfl⟩
  have HSZ := hid (show s.size ≤ 300 by rw [Lib.size_eq, hs]; simp; omega)
  rw [← hs] at HFS
  obtain ⟨L, hL⟩ : ∃ L, L = parse9 s.data.toList := ⟨_, rfl⟩
  have HLN := hid (show L.length ≤ 301 by rw [hL]; have := parse_len s.data.toList; rw [← Lib.size_eq] at this; have := HSZ.out; omega)
  have HPR := hid (fun (X : World) (hX : Gm X) => parse9_any s X hX (by have := HSZ.out; omega))
  unfold ParsePost9 at HPR
  rw [← hL] at HPR
  have HB0 := hid (book9 w)
  clear hg hm hs hL
  go_enter Tryd.func7, Tryd.ntmps7
  go_wp2_with fail
  go_loopw [4] (fun v4 wr => ∃ k : Nat, k ≤ 2 ∧ v4 = .int .i64 k ∧ Hid (KB9 wr w.heap.size w.heap.size (2 * k) ∧ Below w.heap.size w wr)) (fun v4 _ => 2 - (intOf v4).toNat)
  case atStart => exact ⟨0, by omega, rfl, HB0.out, (Below.refl _ w).alloc (Nat.le_refl _) _⟩
  case round =>
    clear HB0
    obtain ⟨k, hk, rfl, HR⟩ := hrel
    by_cases hlt : k < 2
    · have hin : (k : Int) < 2 := by omega
      go_wp2_with fail
      refine (HFS.out _).mono ?_
      rintro e wz ⟨rfl, rfl⟩
      go_wp2_with fail
      refine (HPR.out wr (HM.out.kept HR.out.2)).mono ?_
      rintro e w1 ⟨v1, rfl, hown1, hb1⟩
      have HK1 := hid (keep9 _ _ (2 * k) v1 L wr w1 HR.out.1 hb1 hown1 (by have := HLN.out; omega) (by omega) HR.out.2.size)
      have HB1 := hid (HR.out.2.trans (hb1.mono HR.out.2.size))
      clear hown1 hb1 HR
      go_wp2_with fail
      refine HK1.out.mono ?_
      rintro e w2 ⟨rfl, hkb2, ⟨M, hM, hown2⟩, hb2⟩
      have HB2 := hid (HB1.out.trans hb2)
      have HS := hid (strongest_any v1 M w2 (own_it hown2) (by omega))
      unfold StrPost at HS
      have HKB2 := hid hkb2
      clear hown2 hb2 HB1 HK1 hkb2
      go_wp2_with fail
      refine HS.out.mono ?_
      rintro e w3 ⟨v3, rfl, hown3, hb3⟩
      have HK3 := hid (keep9 _ _ (2 * k + 1) v3 (strong M) w2 w3 HKB2.out hb3 (own_low9 hown3 (by omega)) (by have := strong_len M; omega) (by omega) HB2.out.size)
      have HB3 := hid (HB2.out.trans (hb3.mono HB2.out.size))
      clear hown3 hb3 HS HB2 HKB2
      go_wp2_with fail
      refine HK3.out.mono ?_
      rintro e w4 ⟨rfl, hkb4, _, hb4⟩
      have HR4 := hid (show KB9 w4 w.heap.size w.heap.size (2 * (k + 1)) ∧ Below w.heap.size w w4 from ⟨hkb4, HB3.out.trans hb4⟩)
      clear hkb4 hb4 HB3 HK3
      go_wp2_with fail
      go_roundw
      case rel =>
        first
          | exact ⟨k + 1, by omega, by go_num, HR4.out⟩
          | ((repeat apply Exists.intro); refine ⟨?_, rfl⟩; exact ⟨k + 1, by omega, by go_num, HR4.out⟩)
          | ((repeat apply Exists.intro); exact ⟨⟨k + 1, by omega, by go_num, HR4.out⟩, rfl⟩)
      case measure => simp [intOf]; omega
    · obtain rfl : k = 2 := by omega
      clear hk hlt
      obtain ⟨h, A, Y, xs, ys, hl, hbk⟩ := HR.out.1
      have HAP := hid (apart9 _ _ h A Y xs ys wr hbk (by omega) HR.out.2.size)
      clear hbk
      go_wp2_with fail
      refine HAP.out.mono ?_
      rintro e w5 ⟨rfl, hb5⟩
      have HB5 := hid (HR.out.2.trans hb5)
      have HKN := hid (known9 w5 (HG.out.kept HB5.out) (HM.out.kept HB5.out))
      clear hb5 HAP HR
      go_wp2_with fail
      refine HKN.out.mono ?_
      rintro e w6 ⟨rfl, hb6⟩
      have HB6 := hid (HB5.out.trans (hb6.mono HB5.out.size))
      clear hb6 HKN
      go_wp2_with fail
      go_ret
      exact ⟨rfl, HB6.out⟩

end Go.Proofs.YtbdlicomkpnalaaDoor
