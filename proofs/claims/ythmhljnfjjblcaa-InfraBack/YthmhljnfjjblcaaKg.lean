/-
  The walk of the law InfraBack.
-/
import Derived.Test.YthmhljnfjjblcaaWk
import Derived.Test.YthmhljnfjjblcaaWn
import Derived.Test.YthmhljnfjjblcaaWp
import Derived.Test.YthmhljnfjjblcaaRb
import Derived.Test.YthmhljnfjjblcaaKc
import Derived.Test.YthmhljnfjjblcaaPl
import Derived.Test.YthmhljnfjjblcaaPm
import Derived.Deep.RegionWith
set_option linter.unusedSimpArgs false
set_option linter.unusedVariables false
namespace Go.Proofs.Ythmhljnfjjblcaa
open Go.RowKit

theorem size_blanks : (ByteArray.mk #[32, 10]).size = 2 := rfl

theorem unpercent_to (s : ByteArray) (w : World) (t : ByteArray) (hs : s.size ≤ 140737488351232) (h : unpct s.data.toList = t.data.toList) :
    Calls Try.prog 33 #[.string s] w fun e w' => e = .returned (.string t) ∧ Below w.heap.size w w' := by
  refine (unpercent_any s w hs).mono ?_
  rintro e w' ⟨rfl, hb⟩
  rw [h, Lib.mk_data]
  exact ⟨rfl, hb⟩

set_option maxHeartbeats 4000000 in
theorem infraBack_walk (a0 : Option Addr) (len0 cap0 : Nat) (z0 : List Int) (at0 : Int) (w : World) (w0 : IsRow .u8 w a0 len0 cap0 z0) (w1 : (Lit.int .i64 at0).wf = true) :
    Calls Try.prog 6 #[.slice a0 len0 cap0, .int .i64 at0] w fun e w' => e = .returned (.bool true) ∧ Below w.heap.size w w' := by
  have hat : -9223372036854775808 ≤ at0 ∧ at0 ≤ 9223372036854775807 := by simpa [Lit.wf, IntKind.min, IntKind.max, IntKind.bits, IntKind.signed] using w1
  obtain ⟨l0, hl0, hS0, hc0, hm0⟩ := w0.bytes
  clear w0 w1
  go_enter Try.func6, Try.ntmps6
  go_wp2_with fail
  refine (fewBytes_any a0 len0 cap0 1500 l0 w hl0 hS0 hc0 hm0 (by decide)).mono ?_
  rintro e w1 ⟨len, hlen, hlc, rfl, hS, rfl⟩
  obtain ⟨l, hl⟩ : ∃ l, l = l0.take 1500 := ⟨_, rfl⟩
  rw [← hl] at hS hlen
  have hll : l.length ≤ 1500 := by rw [hl]; simp; omega
  clear hl hS0 hl0
  subst hlen
  go_wp2_with fail
  refine (encode64_any a0 l.length cap0 l w hS hlc hm0 (by omega)).mono ?_
  rintro e w1 ⟨rfl, hb1⟩
  have hS1 := hS.kept hb1
  obtain ⟨s, hs⟩ : ∃ s : ByteArray, s = ⟨(e64 l).toArray⟩ := ⟨_, rfl⟩
  have hsl : s.data.toList = e64 l := by rw [hs]
  have hsz : s.size ≤ 6000 := by rw [Lib.size_eq, hsl]; have := e64_le l; omega
  have hs4 : s.size % 4 = 0 := by rw [Lib.size_eq, hsl]; exact e64_mod l
  rw [← hs]
  have HSl := hid hsl
  clear hs hsl hS
  go_wp2_with fail
  refine (base64_yes s l w1 (by omega) (by rw [HSl.out]; exact b64_back l)).mono ?_
  rintro e w2 ⟨g2, c2, rfl, hown2, hb2⟩
  have hX2 := SlB.own hown2
  have hS2 := hS1.kept hb2
  clear hown2 hS1
  have hwb := withinI_bounds at0 0 s.size (by omega)
  obtain ⟨I, hI⟩ := Int.eq_ofNat_of_zero_le hwb.1
  have hIb : I ≤ s.size := by omega
  clear hwb
  go_wp2_with fail
  refine (within_any at0 0 s.size w2 hat.1 hat.2 (by omega) (by omega) (by omega)).mono ?_
  rintro e w' ⟨rfl, rfl⟩
  rw [hI]
  clear hI
  go_wp2_with fail
  have hII : (I : Int) ≤ (s.size : Int) := by omega
  have HB : Hid (b64 (s.extract 0 I ++ ⟨#[32, 10]⟩ ++ s.extract I s.size).data.toList = some l) := by
    have h1 := b64_blanks l I
    rw [← HSl.out] at h1
    rw [← h1]
    refine hid (congrArg b64 ?_)
    rw [ByteArray.data_append, Array.toList_append, ByteArray.data_append, Array.toList_append, extract_drop, Lib.extract_data]
    simp
  go_region_with (go_at_call 12; refine (base64_yes _ l _ ?_ HB.out).mono ?_; (simp [size_blanks]; omega); rintro e w3 ⟨g3, c3, rfl, hown3, hb3⟩)
  have hb3' : Below w2.heap.size w2 w3 := (Below.refl _ w2).drew.trans hb3
  have hY3 := SlB.own hown3
  have hX3 := hX2.kept hb3'
  have hS3 := hS2.kept hb3'
  clear hown3 hX2 hS2 hb3
  have k1 := hX3.string (P := Try.prog) (src := 22) (dst := 9) Try.underlying22 Try.underlying5 Try.underlying9
  have k2 := hY3.string (P := Try.prog) (src := 22) (dst := 9) Try.underlying22 Try.underlying5 Try.underlying9
  have k3 := hS3.string (P := Try.prog) (src := 22) (dst := 9) Try.underlying22 Try.underlying5 Try.underlying9
  have h4n : ((s.size : Int) % 4 != 0) = false := by simp; omega
  go_wp2
  clear k1 k2 k3 hX3 hY3
  go_loopw [11] (fun t wr => ∃ k : Nat, k ≤ l.length ∧ t = .int .i64 k ∧ (∀ c ∈ l.take k, c ≠ 37) ∧ wr = w3) (fun t _ => l.length - (intOf t).toNat)
  case atStart => exact ⟨0, Nat.zero_le _, rfl, by simp, rfl⟩
  case round =>
    obtain ⟨k, hk, rfl, hno, rfl⟩ := hrel
    have HNO := hid hno
    clear hno
    by_cases hlt : k < l.length
    · obtain ⟨p, rfl, _, hpc⟩ := hS3.some (by omega)
      have hc := hpc k hlt
      have hki : (k : Int) < (l.length : Int) := by omega
      have HT := hid (List.take_succ_eq_append_getElem hlt)
      generalize l[k] = c at hc HT
      clear hpc
      by_cases h37 : c = 37
      · have h37' : ((c.toNat : Int) == 37) = true := by rw [h37]; rfl
        clear h37
        go_wp2_with fail
        refine (known_any _).mono ?_
        rintro e w4 ⟨rfl, hb4⟩
        go_wp2
        go_ret
        exact ⟨rfl, below2 (below2 hb1 hb2) (below2 hb3' hb4)⟩
      · have h37' : ((c.toNat : Int) == 37) = false := by
          rw [beq_eq_false_iff_ne]
          intro e
          exact h37 (UInt8.toNat_inj.1 (by show c.toNat = 37; omega))
        have H37 := hid h37
        clear h37
        go_wp2
        go_roundw
        case rel =>
          refine ⟨k + 1, by omega, by go_num, ?_, by first | rfl | trivial⟩
          rw [HT.out]
          intro d hd
          rw [List.mem_append] at hd
          rcases hd with hd | hd
          · exact HNO.out d hd
          · simp at hd; rw [hd]; exact H37.out
        case measure => simp [intOf]; omega
    · have hno2 : ∀ c ∈ l, c ≠ 37 := by
        have := HNO.out
        rwa [List.take_of_length_le (by omega)] at this
      have HNL := hid hno2
      clear hno2 HNO
      go_wp2
      go_loopw [12] (fun t wq => ∃ j : Nat, 1 ≤ j ∧ j ≤ 7 ∧ t = .int .i64 j ∧ Below wr.heap.size wr wq) (fun t _ => 7 - (intOf t).toNat)
      case atStart => exact ⟨1, by omega, by omega, rfl, Below.refl _ _⟩
      case round =>
        obtain ⟨j, hj1, hj7, rfl, hbq⟩ := hrel
        by_cases hj6 : j ≤ 6
        · have hj6' : (j : Int) ≤ 6 := by omega
          have hSq := hS3.kept hbq
          have hSd := hSq.kept ((Below.refl wr.heap.size wr).drew)
          have k0 := hSq.string (P := Try.prog) (src := 22) (dst := 9) Try.underlying22 Try.underlying5 Try.underlying9
          have k4 := hSd.string (P := Try.prog) (src := 22) (dst := 9) Try.underlying22 Try.underlying5 Try.underlying9
          obtain ⟨T, hT⟩ : ∃ T : ByteArray, T = ⟨l.toArray⟩ := ⟨_, rfl⟩
          have hTl : T.data.toList = l := by rw [hT]
          have hTs : T.size ≤ 1500 := by rw [Lib.size_eq, hTl]; exact hll
          rw [← hT] at k0 k4
          have HTT := hid hT
          have HTl := hid hTl
          clear hT hTl
          have HUP : Hid (∀ set : Int, unpct (pct set T.data.toList) = T.data.toList) := fun set => unpct_pct set _ (by rw [HTl.out]; exact HNL.out)
          have HPL : Hid (∀ set : Int, (pct set T.data.toList).length ≤ 4500) := fun set => by
            have := pct_le set T.data.toList
            rw [HTl.out] at this ⊢
            omega
          go_wp2_with fail
          go_region_with (first | (go_at_call 17; refine (percent_any T _ _ ?_).mono ?_; omega; rintro e w5 ⟨rfl, hb5⟩; have hS5 := hSd.kept hb5; have k5 := hS5.string (P := Try.prog) (src := 22) (dst := 9) Try.underlying22 Try.underlying5 Try.underlying9; rw [← HTT.out] at k5) | (go_at_call 33; refine (unpercent_to _ _ T ?_ ?_).mono ?_; (show (pct _ T.data.toList).toArray.size ≤ _; have := HPL.out (j : Int); simp; omega); exact HUP.out _; rintro e w6 ⟨rfl, hb6⟩; have hS6 := hS5.kept hb6; have k6 := hS6.string (P := Try.prog) (src := 22) (dst := 9) Try.underlying22 Try.underlying5 Try.underlying9; rw [← HTT.out] at k6))
          all_goals
            have h5 : Below wr.heap.size wr w5 := (Below.refl _ wr).drew.trans hb5
            clear k0 k4 k5 k6 hS5 hS6 hSq hSd
            go_wp2
            go_roundw
            case rel => exact ⟨j + 1, by omega, by omega, by go_num, below2 hbq (below2 h5 hb6)⟩
            case measure => simp [intOf]; omega
        · obtain rfl : j = 7 := by omega
          go_wp2_with fail
          refine (known_any _).mono ?_
          rintro e w4 ⟨rfl, hb4⟩
          go_wp2
          go_ret
          exact ⟨rfl, below2 (below2 hb1 hb2) (below2 hb3' (below2 hbq hb4))⟩

end Go.Proofs.Ythmhljnfjjblcaa
