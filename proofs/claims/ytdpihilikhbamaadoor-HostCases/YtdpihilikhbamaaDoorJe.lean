/-
  The walk of the law HostCases.
-/
import Derived.Test.YtdpihilikhbamaaDoorHg
import Derived.Test.YtdpihilikhbamaaDoorVr
import Derived.Test.YtdpihilikhbamaaDoorVq
import Derived.Deep.QuietTactic
import Derived.BigQuiet
import Derived.Deep.RegionWith
import Derived.OpenShut
import Derived.Deep.Cut
import Derived.Deep.CutRange
import Derived.Deep.CutBlock
import Derived.Deep.DeepCutAuto
set_option linter.unusedSimpArgs false
set_option linter.unusedVariables false
namespace Go.Proofs.YtdpihilikhbamaaDoor
open Go.RowKit

theorem ext_one (s : ByteArray) (k : Nat) (h : k < s.size) : (s.extract k (k + 1)).data.toList = [s[k]] := by
  rw [Lib.extract_data, show k + 1 - k = 1 by omega, drop_cons s k h]; rfl

theorem ext_app (T : List UInt8) (s : ByteArray) (k : Nat) (h : k < s.size) : (⟨T.toArray⟩ : ByteArray) ++ s.extract k (k + 1) = ⟨(T ++ [s[k]]).toArray⟩ := by
  refine ba_ext ?_
  rw [ByteArray.data_append, Array.toList_append, ext_one s k h]

theorem upC_yes (c : UInt8) (h : 97 ≤ c.toNat ∧ c.toNat ≤ 122) : ((upC c).toNat : Int) = (c.toNat : Int) - 32 := by
  unfold upC; rw [if_pos h]
  have : (UInt8.ofNat (c.toNat - 32)).toNat = (c.toNat - 32) % 256 := by simp
  rw [this]; omega
theorem upC_no (c : UInt8) (h : ¬ (97 ≤ c.toNat ∧ c.toNat ≤ 122)) : upC c = c := by unfold upC; rw [if_neg h]

theorem conv_one (w : World) (c : UInt8) : (convert 45 9 (.slice (some ⟨w.heap.size, 0, none⟩) 1 1)).run Tryd.prog (w.alloc (.cells #[.int .u8 (c.toNat : Int)] 5 (0, 0))) = .ok (.string ⟨[c].toArray⟩) (w.alloc (.cells #[.int .u8 (c.toNat : Int)] 5 (0, 0))) := by
  refine run_convert_bytes_back (w.alloc (.cells #[.int .u8 (c.toNat : Int)] 5 (0, 0))) 45 9 5 ⟨w.heap.size, 0, none⟩ 1 [c] Tryd.underlying45 Tryd.underlying5 Tryd.underlying9 fun j hj => ?_
  match j, hj with
  | 0, _ => simp [Addr.add]

theorem sg_app (T : List UInt8) (c : UInt8) : (⟨T.toArray⟩ : ByteArray) ++ ⟨#[37]⟩ ++ (⟨#[48, 49, 50, 51, 52, 53, 54, 55, 56, 57, 97, 98, 99, 100, 101, 102]⟩ : ByteArray).extract (c.toNat / 16) (c.toNat / 16 + 1) ++ (⟨#[48, 49, 50, 51, 52, 53, 54, 55, 56, 57, 97, 98, 99, 100, 101, 102]⟩ : ByteArray).extract (c.toNat % 16) (c.toNat % 16 + 1) = ⟨(T ++ sgC c).toArray⟩ := by
  have hc := c.toNat_lt
  refine ba_ext ?_
  rw [ByteArray.data_append, ByteArray.data_append, ByteArray.data_append, Array.toList_append, Array.toList_append, Array.toList_append, hexs_at _ (by omega), hexs_at _ (by omega)]
  simp [sgC]

theorem parse_any_l (l : List UInt8) (special : Bool) (w : World) (hg : Gd w) (hs : l.length ≤ 4000000000) :
    Calls Tryd.prog 18 #[.string ⟨l.toArray⟩, .bool special] w fun e w' => e = .returned (.tuple #[.string ⟨((parseV l special).getD []).toArray⟩, .int .i64 (er (parseV l special))]) ∧ Below w.heap.size w w' :=
  parse_any ⟨l.toArray⟩ special w hg (by rw [Lib.size_eq]; simpa using hs)

def NameRel (w : World) (v : Value) (wc : World) : Prop := ∃ A : List UInt8, v = .string ⟨A.toArray⟩ ∧ A.length ≤ 40 ∧ A.all nmC = true ∧ w = wc

def UpRel (w : World) (T : List UInt8) (v : Value) (wc : World) : Prop := v = .string ⟨T.toArray⟩ ∧ Below w.heap.size w wc

set_option maxHeartbeats 8000000 in
set_option maxRecDepth 100000 in
theorem hostCases_walk (s : ByteArray) (at0 : Int) (w : World) (hs : s.size ≤ maxLen) (ha : (Lit.int .i64 at0).wf = true) (hg : Gd w) :
    Calls Tryd.prog 7 #[.string s, .int .i64 at0] w fun e w' => e = .returned (.bool true) ∧ Below w.heap.size w w' := by
  have HG := hid hg
  clear hg
  unfold maxLen at hs
  have hs' : (s.size : Int) ≤ 9223372036854775807 := by omega
  have ha' := bounds_i64 ha
  clear ha
  go_enter Tryd.func7, Tryd.ntmps7
  go_upto_block 0 with fail
  go_cut [5] (fun v wc => NameRel w v wc)
  case first =>
    go_wp2_with fail
    go_loopg [5, 6] s.size (fun g nv iv wr => ∃ (k : Nat) (A : List UInt8), k + g = s.size ∧ iv = .int .i64 k ∧ nv = .string ⟨A.toArray⟩ ∧ A.length ≤ 40 ∧ A.all nmC = true ∧ wr = w)
    case atStart => exact ⟨0, [], by omega, rfl, rfl, by simp, rfl, rfl⟩
    case round =>
      obtain ⟨k, A, hkg, rfl, rfl, hA, hall, rfl⟩ := hrel
      have HA := hid hall
      clear hall
      by_cases hk : k < s.size
      · have hk' : (k : Int) < (s.size : Int) := by omega
        by_cases hA40 : A.length < 40
        · have hA' : (A.length : Int) < 40 := by omega
          have hc8 : s[k].toNat < 256 := s[k].toNat_lt
          obtain ⟨g, rfl⟩ : ∃ g, gk = g + 1 := ⟨gk - 1, by omega⟩
          by_cases hnm : nmC s[k] = true
          · have HX := hid (ext_app A s k hk)
            have hx1 : (s.extract k (k + 1)).size = 1 := by simp; omega
            have HN := hid (show (A ++ [s[k]]).all nmC = true by rw [List.all_append, HA.out]; simp [hnm])
            have hcase : (97 ≤ s[k].toNat ∧ s[k].toNat ≤ 122) ∨ s[k].toNat = 45 ∨ s[k].toNat = 46 := by
              simp [nmC] at hnm
              rcases hnm with h | h | h
              · exact .inl h
              · right; left; rw [h]; rfl
              · right; right; rw [h]; rfl
            clear hnm
            rcases hcase with ⟨h1, h2⟩ | h1 | h1
            · have h1' : (97 : Int) ≤ (s[k].toNat : Int) := by omega
              have h2' : (s[k].toNat : Int) ≤ 122 := by omega
              go_wp2
              go_roundg g
              case measure => omega
              case rel => exact ⟨k + 1, A ++ [s[k]], by omega, by go_num, by rw [HX.out], by simp; omega, HN.out, rfl⟩
            · have h1' : (s[k].toNat : Int) = 45 := by omega
              go_wp2
              go_roundg g
              case measure => omega
              case rel => exact ⟨k + 1, A ++ [s[k]], by omega, by go_num, by rw [HX.out], by simp; omega, HN.out, rfl⟩
            · have h1' : (s[k].toNat : Int) = 46 := by omega
              go_wp2
              go_roundg g
              case measure => omega
              case rel => exact ⟨k + 1, A ++ [s[k]], by omega, by go_num, by rw [HX.out], by simp; omega, HN.out, rfl⟩
          · have hcase : (s[k].toNat < 97 ∨ 122 < s[k].toNat) ∧ s[k].toNat ≠ 45 ∧ s[k].toNat ≠ 46 := by
              simp [nmC] at hnm
              obtain ⟨h1, h2, h3⟩ := hnm
              refine ⟨by omega, fun e => h2 (UInt8.toNat_inj.1 e), fun e => h3 (UInt8.toNat_inj.1 e)⟩
            obtain ⟨hc1, hc2, hc3⟩ := hcase
            have hc2' : ((s[k].toNat : Int) == 45) = false := by rw [beq_eq_false_iff_ne]; omega
            have hc3' : ((s[k].toNat : Int) == 46) = false := by rw [beq_eq_false_iff_ne]; omega
            clear hnm hc2 hc3
            rcases hc1 with h1 | h1
            · have h1' : (s[k].toNat : Int) < 97 := by omega
              go_wp2
              go_roundg g
              case measure => omega
              case rel => exact ⟨k + 1, A, by omega, by go_num, rfl, hA, HA.out, rfl⟩
            · have h0' : (97 : Int) ≤ (s[k].toNat : Int) := by omega
              have h1' : (122 : Int) < (s[k].toNat : Int) := by omega
              go_wp2
              go_roundg g
              case measure => omega
              case rel => exact ⟨k + 1, A, by omega, by go_num, rfl, hA, HA.out, rfl⟩
        · have hA' : decide ((A.length : Int) < 40) = false := decide_eq_false (by omega)
          go_wp2
          go_meet
          case rel => exact ⟨A, rfl, hA, HA.out, rfl⟩
      · have hk' : decide ((k : Int) < (s.size : Int)) = false := decide_eq_false (by omega)
        go_wp2
        go_meet
        case rel => exact ⟨A, rfl, hA, HA.out, rfl⟩
  case rest =>
    obtain ⟨A, rfl, hA, hall, rfl⟩ := hcut
    have HA := hid hall
    clear hall
    go_wp2
    obtain ⟨l, hl⟩ : ∃ l : List UInt8, l = 113 :: A := ⟨_, rfl⟩
    obtain ⟨L, hL⟩ : ∃ L : ByteArray, L = ⟨#[113]⟩ ++ ⟨A.toArray⟩ ++ ⟨#[113]⟩ := ⟨_, rfl⟩
    have hLd : L.data.toList = l ++ [113] := by
      rw [hL, hl, show (⟨#[113]⟩ : ByteArray) = ⟨[113].toArray⟩ from rfl, ba_app, ba_app]; simp
    have hln : ∀ x ∈ l ++ [113], nmC x = true := by
      intro x hx
      rw [hl] at hx
      simp at hx
      rcases hx with rfl | hx | rfl
      · decide
      · exact List.all_eq_true.1 HA.out x hx
      · decide
    have hLs : L.size ≤ 42 := by rw [Lib.size_eq, hLd, hl]; simp; omega
    rw [← hL]
    have HLd := hid hLd
    have Hln := hid hln
    have Hl := hid hl
    clear hL hLd hln hl HA
    go_loopg [7, 8, 9] L.size (fun g lv sv iv wr => ∃ k : Nat, k + g = L.size ∧ iv = .int .i64 k ∧ lv = .string ⟨((L.data.toList.take k).map upC).toArray⟩ ∧ sv = .string ⟨((L.data.toList.take k).flatMap sgC).toArray⟩ ∧ Below w.heap.size w wr)
    case atStart => exact ⟨0, by omega, rfl, rfl, rfl, Below.refl _ _⟩
    case round =>
      obtain ⟨k, hkg, rfl, rfl, rfl, hbw⟩ := hrel
      cases gk with
      | succ g =>
        have hk : k < L.size := by omega
        have hk' : (k : Int) < (L.size : Int) := by omega
        have HT := hid (take_snoc L k hk)
        have HX := hid (ext_app ((L.data.toList.take k).map upC) L k hk)
        have hx1 : (L.extract k (k + 1)).size = 1 := by simp; omega
        obtain ⟨c, hc⟩ : ∃ c, c = L[k] := ⟨_, rfl⟩
        have HC := hid hc
        have hc8 : c.toNat < 256 := c.toNat_lt
        have hul : ((L.data.toList.take k).map upC).length ≤ 42 := by rw [List.length_map]; have := List.length_take_le k L.data.toList; omega
        have hsl : ((L.data.toList.take k).flatMap sgC).length ≤ 126 := by
          have h3 : ∀ q : List UInt8, (q.flatMap sgC).length = 3 * q.length := by
            intro q
            induction q with
            | nil => rfl
            | cons a q ih => rw [List.flatMap_cons, List.length_append, ih]; simp [sgC]; omega
          rw [h3]
          have := List.length_take_le k L.data.toList
          omega
        rw [← hc] at HX HT
        obtain ⟨U, hU⟩ : ∃ U, U = (L.data.toList.take k).map upC := ⟨_, rfl⟩
        obtain ⟨G, hG⟩ : ∃ G, G = (L.data.toList.take k).flatMap sgC := ⟨_, rfl⟩
        rw [← hU] at hul HX
        rw [← hG] at hsl
        rw [← hU, ← hG]
        have HU := hid hU
        have HGg := hid hG
        clear hU hG
        have hLk : L[k] = c := hc.symm
        clear hc
        have HNx := hid (show (U ++ [upC c] = (L.data.toList.take (k + 1)).map upC) ∧ (G ++ sgC c = (L.data.toList.take (k + 1)).flatMap sgC) by
          rw [HT.out, HU.out, HGg.out]; simp)
        have HSg := hid (sg_app G c)
        have hand := and15 c.toNat hc8
        have hq1 : (0 : Int) ≤ (c.toNat : Int) / 16 := by omega
        have hq2 : (c.toNat : Int) / 16 + 1 ≤ 16 := by omega
        have hr1 : (0 : Int) ≤ (c.toNat : Int) % 16 := by omega
        have hr2 : (c.toNat : Int) % 16 + 1 ≤ 16 := by omega
        have hxa : ((⟨#[48, 49, 50, 51, 52, 53, 54, 55, 56, 57, 97, 98, 99, 100, 101, 102]⟩ : ByteArray).extract (c.toNat / 16) (c.toNat / 16 + 1)).size = 1 := by rw [Lib.size_eq, hexs_at _ (by omega)]; rfl
        have hxb : ((⟨#[48, 49, 50, 51, 52, 53, 54, 55, 56, 57, 97, 98, 99, 100, 101, 102]⟩ : ByteArray).extract (c.toNat % 16) (c.toNat % 16 + 1)).size = 1 := by rw [Lib.size_eq, hexs_at _ (by omega)]; rfl
        by_cases hup : 97 ≤ c.toNat ∧ c.toNat ≤ 122
        · have h1' : (97 : Int) ≤ (c.toNat : Int) := by omega
          have h2' : (c.toNat : Int) ≤ 122 := by omega
          have hcv := conv_one wr (upC c)
          rw [upC_yes c hup] at hcv
          have HUp := hid (ba_app U [upC c])
          go_wp2
          go_quiet (fail)
          go_wp2
          go_roundg g
          case measure => omega
          case rel =>
            refine ⟨k + 1, by omega, by go_num, ?_, ?_, ?_⟩
            · rw [← HNx.out.1, ← HUp.out]
            · rw [← HNx.out.2, ← HSg.out]
            · exact below_drewN (hbw.alloc hbw.size _) _
        · have hun := upC_no c hup
          rcases (show c.toNat < 97 ∨ 122 < c.toNat by omega) with h1 | h1
          · have h1' : (c.toNat : Int) < 97 := by omega
            go_wp2
            go_quiet (fail)
            go_wp2
            go_roundg g
            case measure => omega
            case rel =>
              refine ⟨k + 1, by omega, by go_num, ?_, ?_, ?_⟩
              · rw [← HNx.out.1, hun, ← HX.out]
              · rw [← HNx.out.2, ← HSg.out]
              · exact below_drewN hbw _
          · have h0' : (97 : Int) ≤ (c.toNat : Int) := by omega
            have h1' : (122 : Int) < (c.toNat : Int) := by omega
            go_wp2
            go_quiet (fail)
            go_wp2
            go_roundg g
            case measure => omega
            case rel =>
              refine ⟨k + 1, by omega, by go_num, ?_, ?_, ?_⟩
              · rw [← HNx.out.1, hun, ← HX.out]
              · rw [← HNx.out.2, ← HSg.out]
              · exact below_drewN hbw _
      | zero =>
        have hk : k = L.size := by omega
        have hk' : decide ((k : Int) < (L.size : Int)) = false := decide_eq_false (by omega)
        have hU : (L.data.toList.take k).map upC = (l ++ [113]).map upC := by rw [HLd.out, List.take_of_length_le (by rw [← HLd.out, ← Lib.size_eq]; omega)]
        have hG : (L.data.toList.take k).flatMap sgC = (l ++ [113]).flatMap sgC := by rw [HLd.out, List.take_of_length_le (by rw [← HLd.out, ← Lib.size_eq]; omega)]
        rw [hU, hG]
        have hla : l ++ [113] = 113 :: (A ++ [113]) := by rw [Hl.out]; rfl
        have hln := Hln.out
        have HQ := hid (q_name l hln)
        have HP1 := hid (show parseV L.data.toList true = nameV (l ++ [113]) by rw [HLd.out, hla]; rw [hla] at hln; exact parse_small _ _ hln)
        have HP2 := hid (show parseV ((l ++ [113]).map upC) true = nameV (l ++ [113]) by rw [hla]; rw [hla] at hln; exact parse_large _ _ hln)
        have HP3 := hid (show parseV ((l ++ [113]).flatMap sgC) true = nameV (l ++ [113]) by rw [hla]; rw [hla] at hln; exact parse_signs _ _ hln)
        have hu1 : ((l ++ [113]).map upC).length ≤ 42 := by rw [List.length_map, ← HLd.out, ← Lib.size_eq]; omega
        have hg1 : ((l ++ [113]).flatMap sgC).length ≤ 126 := by
          have h3 : ∀ q : List UInt8, (q.flatMap sgC).length = 3 * q.length := by
            intro q
            induction q with
            | nil => rfl
            | cons a q ih => rw [List.flatMap_cons, List.length_append, ih]; simp [sgC]; omega
          rw [h3, ← HLd.out, ← Lib.size_eq]
          omega
        obtain ⟨U, hUd⟩ : ∃ U, U = (l ++ [113]).map upC := ⟨_, rfl⟩
        obtain ⟨G, hGd⟩ : ∃ G, G = (l ++ [113]).flatMap sgC := ⟨_, rfl⟩
        rw [← hUd] at HP2 hu1
        rw [← hGd] at HP3 hg1
        rw [← hUd, ← hGd]
        clear hU hG hUd hGd hla hln
        subst hk
        clear hkg
        go_wp2_with fail
        rcases HQ.out with hq | hq
        · rw [hq] at HP1 HP2 HP3
          clear HQ hq
          refine (parse_any L true _ (HG.out.kept hbw) (by omega)).mono ?_
          rintro e w1 ⟨rfl, hb1⟩
          rw [HP1.out, er_none rfl]
          have hb := below2 hbw hb1
          clear hb1 hbw
          go_wp2_with fail
          refine (parse_any_l U true _ (HG.out.kept hb) (by omega)).mono ?_
          rintro e w2 ⟨rfl, hb1⟩
          rw [HP2.out, er_none rfl]
          have hb := below2 hb hb1
          clear hb1
          go_wp2_with fail
          refine (parse_any_l G true _ (HG.out.kept hb) (by omega)).mono ?_
          rintro e w3 ⟨rfl, hb1⟩
          rw [HP3.out, er_none rfl]
          have hb := below2 hb hb1
          clear hb1
          go_wp2_with fail
          refine (within_any at0 0 L.size w3 ha'.1 ha'.2 (by omega) (by omega) (by omega)).mono ?_
          rintro e w' ⟨rfl, rfl⟩
          obtain ⟨hi0, hi1⟩ := withinI_bounds at0 0 L.size (by omega)
          obtain ⟨i, hi⟩ := Int.eq_ofNat_of_zero_le hi0
          rw [hi] at hi1 ⊢
          clear hi hi0
          have hil : i ≤ L.size := by omega
          have hI0 : (0 : Int) ≤ (i : Int) := by omega
          have hI1 : (i : Int) ≤ (L.size : Int) := by omega
          obtain ⟨t, ht⟩ : ∃ t : ByteArray, t = L.extract 0 i ++ ⟨#[37]⟩ ++ L.extract i L.size := ⟨_, rfl⟩
          have HTk := hid (show ((l ++ [113]).drop i).take (L.size - i) = (l ++ [113]).drop i from List.take_of_length_le (by rw [List.length_drop, ← HLd.out, ← Lib.size_eq]; exact Nat.le_refl _))
          have htd : t.data.toList = (l ++ [113]).take i ++ 37 :: (l ++ [113]).drop i := by
            rw [ht, ByteArray.data_append, ByteArray.data_append, Array.toList_append, Array.toList_append, Lib.extract_data, Lib.extract_data, HLd.out, List.drop_zero, Nat.sub_zero, HTk.out]
            show _ ++ [37] ++ _ = _
            rw [List.append_assoc]
            rfl
          have hts : t.size ≤ 4000000000 := by
            rw [ht, ByteArray.size_append, ByteArray.size_append, ByteArray.size_extract, ByteArray.size_extract]
            have h1 : (⟨#[37]⟩ : ByteArray).size = 1 := rfl
            omega
          have HSR := hid (fun hn : ¬ i + 2 < L.size => sign_refused l i Hln.out (by rw [← HLd.out, ← Lib.size_eq]; exact hil) (by rw [← HLd.out, ← Lib.size_eq]; exact hn))
          rw [← htd] at HSR
          have HPt := hid (fun (w' : World) (hw : Below w.heap.size w w') => parse_any t true w' (HG.out.kept hw) hts)
          rw [ht] at HPt
          rw [← ht] at HPt
          clear htd
          go_wp2_with fail
          cases hpt : parseV t.data.toList true with
          | none =>
            rw [hpt, er_none rfl] at HPt
            rw [ht] at HPt
            clear HSR hpt
            go_region_with (go_at_call 18; refine (HPt.out _ (hb.trans ((Below.refl _ w3).drew.mono hb.size))).mono ?_; rintro e w5 ⟨rfl, hb5⟩)
            have hb := below2 (hb.trans ((Below.refl _ w3).drew.mono hb.size)) hb5
            clear hb5
            go_wp2_with fail
            refine (known_any _ (HG.out.kept hb)).mono ?_
            rintro e w4 ⟨rfl, hb'⟩
            have hb := below2 hb hb'
            clear hb'
            go_wp2
            go_ret
            exact ⟨rfl, hb⟩
          | some y =>
            rw [hpt, er_some rfl] at HPt
            rw [ht] at HPt
            have hi2 : (i : Int) + 2 < (L.size : Int) := by
              by_cases h : i + 2 < L.size
              · omega
              · have := HSR.out h
                rw [hpt] at this
                exact absurd this (by simp)
            clear HSR hpt
            go_region_with (go_at_call 18; refine (HPt.out _ (hb.trans ((Below.refl _ w3).drew.mono hb.size))).mono ?_; rintro e w5 ⟨rfl, hb5⟩)
            have hb := below2 (hb.trans ((Below.refl _ w3).drew.mono hb.size)) hb5
            clear hb5
            go_wp2_with fail
            refine (known_any _ (HG.out.kept hb)).mono ?_
            rintro e w4 ⟨rfl, hb'⟩
            have hb := below2 hb hb'
            clear hb'
            go_wp2
            go_ret
            exact ⟨rfl, hb⟩
        · rw [hq] at HP1 HP2 HP3
          clear HQ hq
          have HLb := hid (show (⟨((some (l ++ [113])).getD []).toArray⟩ : ByteArray) = L from ba_ext (by rw [HLd.out]; simp))
          refine (parse_any L true _ (HG.out.kept hbw) (by omega)).mono ?_
          rintro e w1 ⟨rfl, hb1⟩
          rw [HP1.out, er_some rfl, show (⟨((some (l ++ [113])).getD []).toArray⟩ : ByteArray) = L from HLb.out]
          have hb := below2 hbw hb1
          clear hb1 hbw
          go_wp2_with fail
          refine (parse_any_l U true _ (HG.out.kept hb) (by omega)).mono ?_
          rintro e w2 ⟨rfl, hb1⟩
          rw [HP2.out, er_some rfl, show (⟨((some (l ++ [113])).getD []).toArray⟩ : ByteArray) = L from HLb.out]
          have hb := below2 hb hb1
          clear hb1
          go_wp2_with fail
          refine (parse_any_l G true _ (HG.out.kept hb) (by omega)).mono ?_
          rintro e w3 ⟨rfl, hb1⟩
          rw [HP3.out, er_some rfl, show (⟨((some (l ++ [113])).getD []).toArray⟩ : ByteArray) = L from HLb.out]
          have hb := below2 hb hb1
          clear hb1
          go_wp2_with fail
          refine (within_any at0 0 L.size w3 ha'.1 ha'.2 (by omega) (by omega) (by omega)).mono ?_
          rintro e w' ⟨rfl, rfl⟩
          obtain ⟨hi0, hi1⟩ := withinI_bounds at0 0 L.size (by omega)
          obtain ⟨i, hi⟩ := Int.eq_ofNat_of_zero_le hi0
          rw [hi] at hi1 ⊢
          clear hi hi0
          have hil : i ≤ L.size := by omega
          have hI0 : (0 : Int) ≤ (i : Int) := by omega
          have hI1 : (i : Int) ≤ (L.size : Int) := by omega
          obtain ⟨t, ht⟩ : ∃ t : ByteArray, t = L.extract 0 i ++ ⟨#[37]⟩ ++ L.extract i L.size := ⟨_, rfl⟩
          have HTk := hid (show ((l ++ [113]).drop i).take (L.size - i) = (l ++ [113]).drop i from List.take_of_length_le (by rw [List.length_drop, ← HLd.out, ← Lib.size_eq]; exact Nat.le_refl _))
          have htd : t.data.toList = (l ++ [113]).take i ++ 37 :: (l ++ [113]).drop i := by
            rw [ht, ByteArray.data_append, ByteArray.data_append, Array.toList_append, Array.toList_append, Lib.extract_data, Lib.extract_data, HLd.out, List.drop_zero, Nat.sub_zero, HTk.out]
            show _ ++ [37] ++ _ = _
            rw [List.append_assoc]
            rfl
          have hts : t.size ≤ 4000000000 := by
            rw [ht, ByteArray.size_append, ByteArray.size_append, ByteArray.size_extract, ByteArray.size_extract]
            have h1 : (⟨#[37]⟩ : ByteArray).size = 1 := rfl
            omega
          have HSR := hid (fun hn : ¬ i + 2 < L.size => sign_refused l i Hln.out (by rw [← HLd.out, ← Lib.size_eq]; exact hil) (by rw [← HLd.out, ← Lib.size_eq]; exact hn))
          rw [← htd] at HSR
          have HPt := hid (fun (w' : World) (hw : Below w.heap.size w w') => parse_any t true w' (HG.out.kept hw) hts)
          rw [ht] at HPt
          rw [← ht] at HPt
          clear htd
          go_wp2_with fail
          cases hpt : parseV t.data.toList true with
          | none =>
            rw [hpt, er_none rfl] at HPt
            rw [ht] at HPt
            clear HSR hpt
            go_region_with (go_at_call 18; refine (HPt.out _ (hb.trans ((Below.refl _ w3).drew.mono hb.size))).mono ?_; rintro e w5 ⟨rfl, hb5⟩)
            have hb := below2 (hb.trans ((Below.refl _ w3).drew.mono hb.size)) hb5
            clear hb5
            go_wp2_with fail
            refine (known_any _ (HG.out.kept hb)).mono ?_
            rintro e w4 ⟨rfl, hb'⟩
            have hb := below2 hb hb'
            clear hb'
            go_wp2
            go_ret
            exact ⟨rfl, hb⟩
          | some y =>
            rw [hpt, er_some rfl] at HPt
            rw [ht] at HPt
            have hi2 : (i : Int) + 2 < (L.size : Int) := by
              by_cases h : i + 2 < L.size
              · omega
              · have := HSR.out h
                rw [hpt] at this
                exact absurd this (by simp)
            clear HSR hpt
            go_region_with (go_at_call 18; refine (HPt.out _ (hb.trans ((Below.refl _ w3).drew.mono hb.size))).mono ?_; rintro e w5 ⟨rfl, hb5⟩)
            have hb := below2 (hb.trans ((Below.refl _ w3).drew.mono hb.size)) hb5
            clear hb5
            go_wp2_with fail
            refine (known_any _ (HG.out.kept hb)).mono ?_
            rintro e w4 ⟨rfl, hb'⟩
            have hb := below2 hb hb'
            clear hb'
            go_wp2
            go_ret
            exact ⟨rfl, hb⟩

end Go.Proofs.YtdpihilikhbamaaDoor
