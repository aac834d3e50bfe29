/-
  The walk of the document's own answer of chapter 1: ostiaryref1's Base64.
-/
import Derived.Test.YthmhljnfjjblcaaRi
import Derived.Test.YthmhljnfjjblcaaRb
import Derived.Test.YthmhljnfjjblcaaWd
import Derived.Deep.Cut
import Derived.Deep.CutRange
import Derived.Deep.DeepCutAuto
set_option linter.unusedSimpArgs false
set_option linter.unusedVariables false
namespace Go.Proofs.Ythmhljnfjjblcaa
open Go.RowKit

/-- What stands behind the padding's loop. -/
def PadRel (B : List UInt8) (wr : World) (v : Value) (wc : World) : Prop := ∃ a n c, v = .slice a n c ∧ n ≤ c ∧ c ≤ maxLen ∧ SlB wc (.slice a n c) (noPadding B) ∧ wc = wr

def PadInv (B : List UInt8) (wr : World) (v k6 : Value) : Prop := ∃ (j : Nat) (a : Option Addr) (n c : Nat) (B' : List UInt8), k6 = .int .i64 j ∧ j ≤ 2 ∧ v = .slice a n c ∧ n ≤ c ∧ c ≤ maxLen ∧ n ≤ 1000000 ∧ SlB wr (.slice a n c) B' ∧ padN (2 - j) B' = noPadding B

set_option maxHeartbeats 2000000 in
set_option maxRecDepth 100000 in
theorem rbase64_any (s : ByteArray) (w : World) (hs : s.size ≤ 1000000) :
    Calls Try.prog 28 #[.string s] w fun e w' => Below w.heap.size w w' ∧
      ((b64 s.data.toList = none ∧ e = .returned (.tuple #[.slice none 0 0, .bool false])) ∨ ∃ a n c l, b64 s.data.toList = some l ∧ e = .returned (.tuple #[.slice a n c, .bool true]) ∧ SlB w' (.slice a n c) l) := by
  obtain ⟨i0, hi, hz0, hz1, hz2⟩ := info_parts infoByte
  go_enter Try.func28, Try.ntmps28
  go_wp2
  go_loopw [4, 5] (fun v i wr => ∃ k : Nat, k ≤ s.size ∧ i = .int .i64 k ∧ wr.ownsRow w.heap.size 5 1 v (noBlanks (s.data.toList.take k)).length (Lib.byteCells (noBlanks (s.data.toList.take k))) ∧ Below w.heap.size w wr)
    (fun _ i _ => s.size - (intOf i).toNat)
  case atStart => exact ⟨0, Nat.zero_le _, rfl, World.ownsRow_nil w _ _ _, Below.refl _ w⟩
  case round =>
    obtain ⟨k, hk, rfl, hown, hbw⟩ := hrel
    have hle := noBlanks_le (s.data.toList.take k)
    have htl : (s.data.toList.take k).length ≤ k := List.length_take_le _ _
    by_cases hlt : k < s.size
    · have HT : Hid (s.data.toList.take (k + 1) = s.data.toList.take k ++ [s[k]]) := take_snoc s k hlt
      by_cases hbl : blankI (s[k].toNat : Int) = true
      · go_wp2_with (go_at_call 52; refine (rblank_any _ _).mono ?_; rintro e w' ⟨rfl, rfl⟩)
        go_roundw
        case rel =>
          refine ⟨k + 1, by omega, by go_num, ?_, hbw⟩
          rw [HT.out, noBlanks_snoc_yes _ _ hbl]; exact hown
        case measure => simp [intOf]; omega
      · have hbl' : blankI (s[k].toNat : Int) = false := by simpa using hbl
        clear hbl
        go_wp2_with (first | (go_at_call 52; refine (rblank_any _ _).mono ?_; rintro e w' ⟨rfl, rfl⟩) | (at_builtin; refine wpList_append_own _ rfl _ _ 22 rfl w.heap.size 5 i0 (.int .u8 0) 1 1 Try.underlying22 hi hz0 hz1 hz2 rfl (by decide) _ _ _ rfl (hown.alloc _) ⟨wr.heap.size, 0, none⟩ 1 1 [.int .u8 s[k].toNat] rfl rfl ?c1 ?c2 ?c3 ?c4 ?c5 ?_))
        case c1 =>
          intro j u hj
          match j, hj with
          | 0, hj => simp at hj; subst hj; simp [Addr.add]
        case c2 => intro u hu; simp at hu; subst hu; rfl
        case c3 => unfold maxLen; omega
        case c4 => omega
        case c5 => have := hbw.size; simp; omega
        intro v' w2 hown' hgrow hnil
        go_wp2
        go_roundw
        case rel =>
          refine ⟨k + 1, by omega, by go_num, ?_, ?_⟩
          · rw [HT.out, noBlanks_snoc_no _ _ hbl', Lib.byteCells_append, byteCells_one]; simpa using hown'
          · exact (hbw.alloc hbw.size _).grown hgrow (by have := hbw.size; simp; omega) (fun g hg => (hown.lt g hg).1)
        case measure => simp [intOf]; omega
    · rw [take_all s k hlt] at hown
      have hS := SlB.own hown
      have hle := noBlanks_le s.data.toList
      rw [← Lib.size_eq] at hle
      have HB : Hid (b64 s.data.toList = if (noPadding (noBlanks s.data.toList)).length % 4 = 1 then none else if (noPadding (noBlanks s.data.toList)).all is64 then some (run64 (noPadding (noBlanks s.data.toList))).2.2 else none) := hid rfl
      have hcap : ∃ a n c, u4 = .slice a n c ∧ n ≤ c ∧ c ≤ maxLen := by
        rcases hown.2 with ⟨rfl, h0⟩ | ⟨g, cap, cur, rfl, _, _, h1, h2, _⟩
        · exact ⟨none, 0, 0, rfl, Nat.le_refl _, by unfold maxLen; omega⟩
        · exact ⟨_, _, _, rfl, h1, h2⟩
      obtain ⟨a, n, c, rfl, hnc, hcm⟩ := hcap
      generalize noBlanks s.data.toList = B at hS hle HB
      have hn := hS.length
      subst hn
      clear hown
      go_upto_if 32 with fail
      go_cut [4, 6] (fun v _ wc => PadRel B wr v wc)
      case first =>
        by_cases h4 : B.length % 4 = 0
        · have h4' : ((B.length : Int) % 4 == 0) = true := by simp; omega
          have HN := hid (noPadding_padN B h4)
          clear h4
          go_wp2
          go_loop [4, 6] (fun v k6 => PadInv B wr v k6) (fun _ k6 => 2 - (intOf k6).toNat)
          case atStart => exact ⟨0, a, B.length, c, B, rfl, by omega, rfl, hnc, hcm, by omega, hS, HN.out⟩
          case round =>
            obtain ⟨j, a', n', c', B', rfl, hj, rfl, hnc', hcm', hb6, hS', hp⟩ := hrel
            have hn' := hS'.length
            subst hn'
            have HP := hid hp
            clear hp
            by_cases hj2 : j < 2
            · have hji : (j : Int) < 2 := by omega
              by_cases h0 : B'.length = 0
              · have hd : (B'.length : Int) ≤ 0 := by omega
                have hnil := hid (List.eq_nil_of_length_eq_zero h0)
                clear h0
                go_wp2
                go_meet
                case rel =>
                  refine ⟨a', B'.length, c', rfl, hnc', hcm', ?_, rfl⟩
                  have : noPadding B = B' := by rw [← HP.out]; exact padN_same _ _ (by rw [hnil.out]; rfl)
                  rw [this]; exact hS'
              · obtain ⟨p, rfl, _, hpc⟩ := hS'.some (by omega)
                have hlast : B'.length - 1 < B'.length := by omega
                have hc := hpc (B'.length - 1) hlast
                have HL := hid (trim1_last B' hlast)
                have hpos : (0 : Int) < (B'.length : Int) := by omega
                have hpos' : decide ((0 : Int) < (B'.length : Int)) = true := decide_eq_true hpos
                clear hpc
                generalize B'[B'.length - 1] = cc at hc HL
                by_cases h61 : cc = 61
                · have h61' : (cc.toNat : Int) = 61 := by rw [h61]; rfl
                  rw [h61'] at hc
                  have hT := hS'.take (B'.length - 1) hlast
                  have hl : (B'.take (B'.length - 1)).length = B'.length - 1 := by simp
                  have HLl := hid hl
                  clear hl
                  go_wp2
                  go_round
                  case rel =>
                    unfold PadInv
                    refine ⟨j + 1, some p, B'.length - 1, c', B'.take (B'.length - 1), by go_num, by omega, by go_num, by omega, hcm', by omega, hT, ?_⟩
                    rw [← HP.out, show 2 - j = (2 - (j + 1)) + 1 by omega]
                    show _ = padN _ (trim1 B')
                    rw [HL.out, if_pos h61]
                  case measure => simp [intOf]; omega
                · have h61' : ((cc.toNat : Int) == 61) = false := by
                    rw [beq_eq_false_iff_ne]
                    intro e
                    exact h61 (UInt8.toNat_inj.1 (by show cc.toNat = 61; omega))
                  go_wp2
                  go_meet
                  case rel =>
                    refine ⟨some p, B'.length, c', rfl, hnc', hcm', ?_, rfl⟩
                    have : noPadding B = B' := by rw [← HP.out]; exact padN_same _ _ (by rw [HL.out, if_neg h61])
                    rw [this]; exact hS'
            · obtain rfl : j = 2 := by omega
              go_wp2
              go_meet
              case rel =>
                refine ⟨a', B'.length, c', rfl, hnc', hcm', ?_, rfl⟩
                have : noPadding B = B' := HP.out.symm
                rw [this]; exact hS'
        · have h4' : ((B.length : Int) % 4 == 0) = false := by simp; omega
          have HN := hid (noPadding_id B h4)
          clear h4
          go_wp2
          go_meet
          case rel => exact ⟨a, B.length, c, rfl, hnc, hcm, by rw [HN.out]; exact hS, rfl⟩
      case rest =>
        obtain ⟨a1, n1, c1, rfl, hnc1, hcm1, hS1, rfl⟩ := hcut
        have hpl : (noPadding B).length ≤ B.length := by
          unfold noPadding
          split
          · exact Nat.le_trans (Lib.trimSuffix_le _ _) (Lib.trimSuffix_le _ _)
          · exact Nat.le_refl _
        generalize noPadding B = d at hS1 HB hpl
        clear hS hnc hcm
        have hn1 := hS1.length
        subst hn1
        by_cases h1 : d.length % 4 = 1
        · have h1' : ((d.length : Int) % 4 == 1) = true := by simp; omega
          go_wp2
          go_ret2
          refine ⟨hbw, .inl ⟨?_, rfl⟩⟩
          rw [HB.out, if_pos h1]
        · have h1' : ((d.length : Int) % 4 == 1) = false := by simp; omega
          have hd6 : d.length ≤ 1000000 := by omega
          clear hpl hle
          go_wp2
          go_loopw [7, 8, 9, 10] (fun v nn h i wr => ∃ k N : Nat, k ≤ d.length ∧ i = .int .i64 k ∧ h = .int .i64 (run64 (d.take k)).2.1 ∧ nn = .int .i64 N ∧ N = (run64 (d.take k)).1 % 65536 ∧
              wr.ownsRow wc.heap.size 5 1 v (run64 (d.take k)).2.2.length (Lib.byteCells (run64 (d.take k)).2.2) ∧ (d.take k).all is64 = true ∧ Below wc.heap.size wc wr)
            (fun _ _ _ i _ => d.length - (intOf i).toNat)
          case atStart => exact ⟨0, 0, Nat.zero_le _, rfl, rfl, rfl, rfl, World.ownsRow_nil wc _ _ _, rfl, Below.refl _ wc⟩
          case round =>
            obtain ⟨k3, N, hk3, rfl, rfl, rfl, hN, hown, hall, hb3⟩ := hrel
            have hh := run64_held (d.take k3)
            have hle3 := run64_len (d.take k3)
            have htl3 : (d.take k3).length ≤ k3 := List.length_take_le _ _
            by_cases hlt3 : k3 < d.length
            · obtain ⟨p, rfl, _, hpc⟩ := (hS1.kept hb3).some (by omega)
              have hc := hpc k3 hlt3
              have HT := hid (List.take_succ_eq_append_getElem hlt3)
              have hmem := hid (List.getElem_mem hlt3)
              clear hpc
              generalize d[k3] = cc at hc HT hmem
              have HA := hid hall
              clear hall
              have HS := hid (run64_snoc (d.take k3) cc)
              have hki : (k3 : Int) < (d.length : Int) := by omega
              generalize hr : run64 (d.take k3) = R at *
              obtain ⟨NN, H, O⟩ := R
              have HR := hid hr
              clear hr
              simp only at hown hh hle3 hN
              by_cases h64 : is64 cc = true
              · have hv := val64_lt (cc.toNat : Int)
                obtain ⟨V, hV⟩ : ∃ V : Nat, V = (val64I cc.toNat).toNat := ⟨_, rfl⟩
                have hvv : v64 cc = (V : Int) := by unfold v64; rw [if_pos h64, hV]; omega
                have hV64 : V < 64 := by omega
                have HV := hid hV
                clear hV hv
                obtain ⟨M, hM⟩ : ∃ M : Nat, M = (NN * 64 + V) % 65536 := ⟨_, rfl⟩
                have hMI : ((N : Int) * 64 + (V : Int)) % 65536 = (M : Int) := by omega
                have hN6 : N < 65536 := by omega
                have hM6 : M < 65536 := by omega
                have HM := hid hM
                have HN := hid hN
                clear hM hN
                by_cases hH : 2 ≤ H
                · have hHI : (8 : Int) ≤ (H : Int) + 6 := by omega
                  have HX : Hid ((M : Int) / 2 ^ (H - 2) % 256 = ((UInt8.ofNat ((NN * 64 + V) / 2 ^ (H - 2))).toNat : Int)) := by rw [HM.out]; exact shr16 _ _ (by omega)
                  go_wp2_with (first | (go_at_call 55; refine (rvalue64_any _ _).mono ?_; rintro e w' ⟨rfl, rfl⟩) | (at_builtin; refine wpList_append_own _ rfl _ _ 22 rfl wc.heap.size 5 i0 (.int .u8 0) 1 1 Try.underlying22 hi hz0 hz1 hz2 rfl (by decide) _ _ _ rfl (hown.alloc _) ⟨wr.heap.size, 0, none⟩ 1 1 [.int .u8 ((M : Int) / 2 ^ (H - 2) % 256)] rfl rfl ?c1 ?c2 ?c3 ?c4 ?c5 ?_))
                  case c1 =>
                    intro j u hj
                    match j, hj with
                    | 0, hj => simp at hj; subst hj; simp [Addr.add]
                  case c2 => intro u hu; simp at hu; subst hu; rfl
                  case c3 => unfold maxLen; omega
                  case c4 => omega
                  case c5 => have := hb3.size; simp; omega
                  intro v' w4 hown' hgrow hnil
                  have HSt : Hid (run64 (d.take (k3 + 1)) = (NN * 64 + V, H - 2, O ++ [UInt8.ofNat ((NN * 64 + V) / 2 ^ (H - 2))])) := by
                    rw [HT.out, HS.out, HV.out]
                    exact hid (by rw [step64, if_pos hH])
                  go_wp2
                  go_roundw
                  case rel =>
                    refine ⟨k3 + 1, M, by omega, by go_num, ?_, rfl, ?_, ?_, ?_, ?_⟩
                    · rw [HSt.out]; go_num
                    · rw [HSt.out]; exact HM.out
                    · rw [HSt.out, Lib.byteCells_append, byteCells_one, ← HX.out]; simpa using hown'
                    · rw [HT.out, List.all_append, HA.out]; simp [h64]
                    · exact (hb3.alloc hb3.size _).grown hgrow (by have := hb3.size; simp; omega) (fun g hg => (hown.lt g hg).1)
                  case measure => simp [intOf]; omega
                · have hHI : (H : Int) + 6 < 8 := by omega
                  have HSt : Hid (run64 (d.take (k3 + 1)) = (NN * 64 + V, H + 6, O)) := by
                    rw [HT.out, HS.out, HV.out]
                    exact hid (by rw [step64, if_neg hH])
                  go_wp2_with (go_at_call 55; refine (rvalue64_any _ _).mono ?_; rintro e w' ⟨rfl, rfl⟩)
                  go_roundw
                  case rel =>
                    refine ⟨k3 + 1, M, by omega, by go_num, ?_, by rw [hMI], ?_, ?_, ?_, hb3⟩
                    · rw [HSt.out]; go_num
                    · rw [HSt.out]; exact HM.out
                    · rw [HSt.out]; exact hown
                    · rw [HT.out, List.all_append, HA.out]; simp [h64]
                  case measure => simp [intOf]; omega
              · have hvv : v64 cc = -1 := by unfold v64; rw [if_neg h64]
                go_wp2_with (go_at_call 55; refine (rvalue64_any _ _).mono ?_; rintro e w' ⟨rfl, rfl⟩)
                go_ret2
                refine ⟨hbw.trans (hb3.mono hbw.size), .inl ⟨?_, rfl⟩⟩
                have : d.all is64 = false := by
                  rw [List.all_eq_false]
                  exact ⟨cc, hmem.out, by simpa using h64⟩
                rw [HB.out, if_neg h1, this]
                rfl
            · rw [List.take_of_length_le (by omega)] at hown hall
              have hSo := SlB.own hown
              obtain ⟨ao, co, hvo⟩ := hSo.len
              subst hvo
              have HS2 := hid hSo
              have HA2 := hid hall
              clear hown hall hSo
              go_wp2
              go_ret2
              refine ⟨hbw.trans (hb3.mono hbw.size), .inr ⟨_, _, _, _, ?_, rfl, HS2.out⟩⟩
              rw [HB.out, if_neg h1, HA2.out]
              rfl

end Go.Proofs.Ythmhljnfjjblcaa
