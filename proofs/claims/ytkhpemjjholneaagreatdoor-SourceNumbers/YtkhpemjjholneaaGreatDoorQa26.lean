/-
  Walks and plain facts that this claim leans on, put together out of 2 texts: Rn, So.
-/
import Derived.Test.YtkhpemjjholneaaGreatDoorProg
import Derived.Test.YtkhpemjjholneaaGreatDoorQa1
import Derived.Test.YtkhpemjjholneaaGreatDoorQa2
import Derived.Test.YtkhpemjjholneaaGreatDoorQa3
import Derived.Test.YtkhpemjjholneaaGreatDoorQa4
import Derived.Test.YtkhpemjjholneaaGreatDoorQa5
import Derived.Test.YtkhpemjjholneaaGreatDoorQa6
import Derived.Test.YtkhpemjjholneaaGreatDoorQa7
import Derived.Test.YtkhpemjjholneaaGreatDoorQa8
import Derived.Test.YtkhpemjjholneaaGreatDoorQa12
import Derived.Test.YtkhpemjjholneaaGreatDoorQa17
import Derived.Test.YtkhpemjjholneaaGreatDoorQa18
import Derived.Test.YtkhpemjjholneaaGreatDoorQa21
import Derived.Test.YtkhpemjjholneaaGreatDoorQa22
import Derived.Test.YtkhpemjjholneaaGreatDoorQa23
import Derived.Test.YtkhpemjjholneaaGreatDoorQa24
import Derived.Test.YtkhpemjjholneaaGreatDoorQa25
import Derived.Lib.AppendIntMem
import Derived.Lib.SmallJoins
import Derived.WalkSmall
import Derived.Lib.LastIndexByte
import Derived.OwnWalk
import Derived.Deep.LoopGhost
import Derived.Laws.AppendOwn
import Derived.Deep.RegionWith
import Derived.Laws.CopyOwn
import Derived.Laws.ResultCell
import Derived.Deep.MidRow
import Derived.Shelf.Strings.Builder1
import Derived.Shelf.Strings.Builder2
import Derived.Shelf.Strings.OnBuilder
import Derived.Shelf.Strings.Trim
import Derived.Shelf.Small.Utf8
import Derived.Shelf.Small.Bits
import Derived.Shelf.Small.Strs
import Derived.Shelf.Small.Wraps
import Derived.Shelf.Strings.BuilderF
import Derived.Shelf.Strings.BuilderK
import Derived.Shelf.Strings.BuilderRune
import Derived.Shelf.Utf8.AppendRune
import Derived.Shelf.Utf8.AppendRunePlain
import Derived.Shelf.Strings.Builder2Cap
import Derived.Shelf.Strconv.Itoa0
import Derived.Shelf.Strconv.Itoa1
import Derived.Shelf.LaysM
import Derived.Shelf.Strconv.Itoa2
import Derived.Shelf.Strconv.Itoa3
import Derived.Shelf.Strings.Search1
import Derived.Shelf.Strings.Search2
import Derived.Shelf.Strings.Search3
import Derived.Shelf.Strings.Cut
import Derived.Shelf.Strings.Count
import Derived.Shelf.Strings.Shaped
import Derived.Shelf.Sort.Plain
import Derived.Shelf.Strings.LastIndex
import Derived.Shelf.Strings.Prefix
import Derived.Shelf.Strings.Split
import Derived.Shelf.Strings.Replace
import Derived.Shelf.Strings.Runes
import Derived.Shelf.Strings.IndexAny
import Derived.Shelf.Strings.AsciiSet
import Derived.Shelf.Strings.IndexAnyAll
import Derived.Shelf.Unicode.DecodeSlow
import Derived.Shelf.Unicode.DecodeAny
import Derived.Shelf.Unicode.DecodeLast
import Derived.Shelf.Strings.FieldsFuncAny
import Derived.Shelf.Strings.FieldsFuncGrows
import Derived.Shelf.Slices.Equal
import Derived.Ground.Names2Prog
import Derived.Shelf.Slices.Clone
import Derived.Ground.SlgnProg
import Derived.Shelf.SlicesE.Equal
import Derived.Shelf.SlicesE.Clone
import Derived.WalkKit
import Derived.WalkSpells
import Derived.WalkLawsBesides
import Derived.Lib.FrozenHead2
import Derived.Lib.OthersKept
import Derived.Lib.Builder
import Derived.Lib.Strings
import Derived.Lib.UnsafeStr
import Derived.Laws.IdiomStrings
import Derived.Lib.Bytealg
import Derived.Lib.IndexMore
import Derived.Lib.Join
import Derived.Laws.BitsAllLaws
import Derived.WalkMore
import Derived.Lib.BufferMore
import Derived.Deep.RegionLaw
import Derived.LoopN
import Derived.Laws.OwnMore
import Derived.Lib.BufferRead
import Derived.Lib.RuneBytes
import Derived.Laws.RangeAny
import Derived.RegionTactic
import Derived.Deep.QuietTactic
import Derived.BigQuiet
import Derived.BigRegion
set_option linter.unusedSimpArgs false
set_option linter.unusedVariables false

namespace Go.Proofs.YtkhpemjjholneaaGreatDoor
open Go.RowKit

theorem numeral_dec8 (n : Nat) (w : World) (h : n < 256) :
    Calls Tryz.prog 247 #[.int .i64 n] w fun e w' => e = .returned (.string ⟨(dec8 n).toArray⟩) ∧ w = w' := by
  rw [dec8_digs n h]; exact numeral_nat n w (by omega)

/-- What is written when g bytes are still to come; four: nothing. -/
def rt4 (n : Nat) : Nat → List UInt8
  | 4 => []
  | g => txt4 n g

theorem rt4_le (n g : Nat) : (rt4 n g).length ≤ 15 := by
  unfold rt4; split
  · simp
  · exact txt4_le n _

set_option maxHeartbeats 2000000 in
theorem rtext4_any (n : Nat) (w : World) (h : n < 4294967296) :
    Calls Tryz.prog 232 #[.int .u32 n] w fun e w' => e = .returned (.string ⟨(text4 n).toArray⟩) ∧ Below w.heap.size w w' := by
  have hd1 := dec8_ne (n / 16777216 % 256) (by omega)
  go_enter Tryz.func232, Tryz.ntmps232
  go_wp2
  go_loopg [3, 4] 4 (fun g s3 s4 wr => g ≤ 4 ∧ s4 = .int .i64 (8 * (g : Int) - 8) ∧ s3 = .string ⟨(rt4 n g).toArray⟩ ∧ Below w.heap.size w wr)
  case atStart => exact ⟨by omega, rfl, rfl, Below.refl _ _⟩
  case round =>
    obtain ⟨hk, rfl, rfl, hbw⟩ := hrel
    obtain rfl | rfl | rfl | rfl | rfl : gk = 0 ∨ gk = 1 ∨ gk = 2 ∨ gk = 3 ∨ gk = 4 := by omega
    · go_wp2
      go_ret
      exact ⟨rfl, hbw⟩
    · have hl2 := dec8_le (n % 256)
      have ha := and255 (n) (by omega)
      have hlt : n % 256 < 256 := by omega
      have HT := hid (show (⟨(rt4 n 1).toArray⟩ : ByteArray) ++ ⟨#[46]⟩ ++ ⟨(dec8 (n % 256)).toArray⟩ = ⟨(rt4 n 0).toArray⟩ by rw [show (⟨#[46]⟩ : ByteArray) = ⟨[46].toArray⟩ from rfl, ba_app, ba_app]; simp [rt4, txt4, text4])
      have hl1 := rt4_le n 1
      have he : (rt4 n 1).isEmpty = false := by simp [rt4, txt4, hd1]
      have HM := hid (fun W => numeral_dec8 (n % 256) W hlt)
      obtain ⟨m, hm⟩ : ∃ m : Nat, m = n % 256 := ⟨_, rfl⟩
      rw [← hm] at ha hlt HM hl2 HT
      clear hm
      go_wp2_with (go_at_call 247; go_must (refine (HM.out _).mono ?_; rintro e w2 ⟨rfl, rfl⟩))
      go_roundg 0
      case measure => omega
      case rel => exact ⟨by omega, by go_num, by rw [← HT.out], hbw⟩
    · have hl2 := dec8_le (n / 256 % 256)
      have ha : bits .and .u32 ((n : Int) / 256) 255 = ((n / 256 % 256 : Nat) : Int) := and255 (n / 256) (by omega)
      have hlt : n / 256 % 256 < 256 := by omega
      have HT := hid (show (⟨(rt4 n 2).toArray⟩ : ByteArray) ++ ⟨#[46]⟩ ++ ⟨(dec8 (n / 256 % 256)).toArray⟩ = ⟨(rt4 n 1).toArray⟩ by rw [show (⟨#[46]⟩ : ByteArray) = ⟨[46].toArray⟩ from rfl, ba_app, ba_app]; simp [rt4, txt4, text4])
      have hl1 := rt4_le n 2
      have he : (rt4 n 2).isEmpty = false := by simp [rt4, txt4, hd1]
      have HM := hid (fun W => numeral_dec8 (n / 256 % 256) W hlt)
      obtain ⟨m, hm⟩ : ∃ m : Nat, m = n / 256 % 256 := ⟨_, rfl⟩
      rw [← hm] at ha hlt HM hl2 HT
      clear hm
      go_wp2_with (go_at_call 247; go_must (refine (HM.out _).mono ?_; rintro e w2 ⟨rfl, rfl⟩))
      go_roundg 1
      case measure => omega
      case rel => exact ⟨by omega, by go_num, by rw [← HT.out], hbw⟩
    · have hl2 := dec8_le (n / 65536 % 256)
      have ha : bits .and .u32 ((n : Int) / 65536) 255 = ((n / 65536 % 256 : Nat) : Int) := and255 (n / 65536) (by omega)
      have hlt : n / 65536 % 256 < 256 := by omega
      have HT := hid (show (⟨(rt4 n 3).toArray⟩ : ByteArray) ++ ⟨#[46]⟩ ++ ⟨(dec8 (n / 65536 % 256)).toArray⟩ = ⟨(rt4 n 2).toArray⟩ by rw [show (⟨#[46]⟩ : ByteArray) = ⟨[46].toArray⟩ from rfl, ba_app, ba_app]; simp [rt4, txt4, text4])
      have hl1 := rt4_le n 3
      have he : (rt4 n 3).isEmpty = false := by simp [rt4, txt4, hd1]
      have HM := hid (fun W => numeral_dec8 (n / 65536 % 256) W hlt)
      obtain ⟨m, hm⟩ : ∃ m : Nat, m = n / 65536 % 256 := ⟨_, rfl⟩
      rw [← hm] at ha hlt HM hl2 HT
      clear hm
      go_wp2_with (go_at_call 247; go_must (refine (HM.out _).mono ?_; rintro e w2 ⟨rfl, rfl⟩))
      go_roundg 2
      case measure => omega
      case rel => exact ⟨by omega, by go_num, by rw [← HT.out], hbw⟩
    · rw [show rt4 n 4 = [] from rfl]
      have hl2 := dec8_le (n / 16777216 % 256)
      have ha : bits .and .u32 ((n : Int) / 16777216) 255 = ((n / 16777216 % 256 : Nat) : Int) := and255 (n / 16777216) (by omega)
      have hlt : n / 16777216 % 256 < 256 := by omega
      have HT := hid (show (⟨(dec8 (n / 16777216 % 256)).toArray⟩ : ByteArray) = ⟨(rt4 n 3).toArray⟩ from rfl)
      have HM := hid (fun W => numeral_dec8 (n / 16777216 % 256) W hlt)
      obtain ⟨m, hm⟩ : ∃ m : Nat, m = n / 16777216 % 256 := ⟨_, rfl⟩
      rw [← hm] at ha hlt HM hl2 HT
      clear hm
      go_wp2_with (go_at_call 247; go_must (refine (HM.out _).mono ?_; rintro e w2 ⟨rfl, rfl⟩))
      go_roundg 3
      case measure => omega
      case rel => exact ⟨by omega, by go_num, by rw [← HT.out]; simp; exact ba_app [] _, hbw⟩

end Go.Proofs.YtkhpemjjholneaaGreatDoor

namespace Go.Proofs.YtkhpemjjholneaaGreatDoor
open Go.RowKit

theorem nameB_hi {c : UInt8} (h : 126 < c.toNat) : nameB c = false := by
  unfold nameB; simp [h]

theorem nameB_lo {c : UInt8} (h : c.toNat < 33) : nameB c = false := by
  unfold nameB; simp [h]

theorem nameB_pc {c : UInt8} (h : c = 37) : nameB c = false := by
  subst h; decide

theorem nameB_fb {c : UInt8} (h : forb c = true) : nameB c = false := by
  unfold nameB; simp [h]

theorem nameB_ok {c : UInt8} (h1 : ¬ 126 < c.toNat) (h2 : ¬ c.toNat < 33) (h3 : c ≠ 37) (h4 : forb c = false) : nameB c = true := by
  unfold nameB
  simp [h1, h2, h3, h4]

set_option maxHeartbeats 8000000 in
set_option maxRecDepth 100000 in
theorem rparse_name (s : ByteArray) (w : World) (hs : s.size ≤ 1000000) (hp : Lib.hasPrefix s.data.toList [91] = false) :
    Calls Tryz.prog 200 #[.string s, .bool true] w (Parse2Post (parseV s.data.toList true) w) := by
  have HV := hid (show parseV s.data.toList true = nameV (low (unpct s.data.toList)) from parseV_name hp)
  have HB := hid (fun W => begins_any s ⟨#[91]⟩ W (by omega) (by decide))
  rw [show (⟨#[91]⟩ : ByteArray).data.toList = [91] from rfl, hp] at HB
  clear hp
  have HU := hid (runpercent_any s w hs)
  have hul := unpct_le s.data.toList
  have hUs : (⟨(unpct s.data.toList).toArray⟩ : ByteArray).size ≤ 1000000 := by
    show (unpct s.data.toList).toArray.size ≤ _
    simp at hul ⊢; omega
  have HLo := hid (fun W => rlower_any ⟨(unpct s.data.toList).toArray⟩ W (by omega))
  rw [show (⟨(unpct s.data.toList).toArray⟩ : ByteArray).data.toList = unpct s.data.toList from rfl] at HLo
  have hMl : (low (unpct s.data.toList)).length ≤ 1000000 := by rw [low_length]; simp at hul; omega
  generalize low (unpct s.data.toList) = M at *
  generalize unpct s.data.toList = U at *
  obtain ⟨X, hX⟩ : ∃ X : ByteArray, X = ⟨M.toArray⟩ := ⟨_, rfl⟩
  have HXd := hid (show X.data.toList = M by rw [hX])
  have hXs : X.size ≤ 1000000 := by rw [hX]; show M.toArray.size ≤ _; simpa using hMl
  have HX := hid hX
  rw [← hX] at HLo
  rw [← HXd.out] at HV
  clear hX hMl HXd
  clear HX
  go_enter Tryz.func200, Tryz.ntmps200
  go_wp2_with (go_at_call 119; refine (HB.out _).mono ?_; rintro e w' ⟨rfl, rfl⟩)
  refine HU.out.mono ?_
  rintro e w1 ⟨rfl, hb1⟩
  go_wp2_with fail
  refine (HLo.out _).mono ?_
  rintro e w2 ⟨rfl, hb2⟩
  have hb := below2 hb1 hb2
  clear hb1 hb2 HU HLo HB hUs hul
  go_wp2_with fail
  go_loop [9] (fun i => ∃ k : Nat, k ≤ X.size ∧ i = .int .i64 k ∧ (X.data.toList.drop k).all nameB = allN X.data.toList) (fun i => X.size - (intOf i).toNat)
  case atStart => exact ⟨0, Nat.zero_le _, rfl, by rw [List.drop_zero]; rfl⟩
  case round =>
    obtain ⟨k, hk, rfl, hall⟩ := hrel
    have HA := hid hall
    clear hall
    by_cases hlt : k < X.size
    · have hlt' : (k : Int) < (X.size : Int) := by omega
      have hc8 : X[k].toNat < 256 := X[k].toNat_lt
      have HD := hid (drop_cons X k hlt)
      have HBad := hid (show nameB X[k] = false → parseV s.data.toList true = none by
        intro h
        rw [HV.out]
        refine nameV_bad (.inr (.inl ?_))
        rw [← HA.out, HD.out, List.all_cons, h]; rfl)
      by_cases h1 : 126 < X[k].toNat
      · have HN := hid (HBad.out (nameB_hi h1))
        have h1' : (126 : Int) < (X[k].toNat : Int) := by omega
        go_wp2_with fail
        go_ret2
        exact parse2_none HN.out hb
      · have h1' : decide ((126 : Int) < (X[k].toNat : Int)) = false := by simp; omega
        by_cases h2 : X[k].toNat < 33
        · have HN := hid (HBad.out (nameB_lo h2))
          have h2' : (X[k].toNat : Int) < 33 := by omega
          go_wp2_with fail
          go_ret2
          exact parse2_none HN.out hb
        · have h2' : decide ((X[k].toNat : Int) < 33) = false := by simp; omega
          by_cases h3 : X[k] = 37
          · have HN := hid (HBad.out (nameB_pc h3))
            have h3' : (X[k].toNat : Int) = 37 := by rw [h3]; rfl
            clear h3
            go_wp2_with fail
            go_ret2
            exact parse2_none HN.out hb
          · have h3' : ((X[k].toNat : Int) == 37) = false := by
              rw [beq_eq_false_iff_ne]
              intro e
              exact h3 (UInt8.toNat_inj.1 (by have : (37 : UInt8).toNat = 37 := rfl; omega))
            cases h4 : forb X[k] with
            | true =>
              have HN := hid (HBad.out (nameB_fb h4))
              have HF := hid h4
              clear h4 h3
              go_wp2_with (go_at_call 229; refine (rbad_any _ _).mono ?_; rintro e w' ⟨rfl, rfl⟩; rw [HF.out])
              go_ret2
              exact parse2_none HN.out hb
            | false =>
              have HA2 := hid (show (X.data.toList.drop (k + 1)).all nameB = allN X.data.toList by rw [← HA.out, HD.out, List.all_cons, nameB_ok h1 h2 h3 h4]; rfl)
              have HF := hid h4
              clear h4 h3
              go_wp2_with (go_at_call 229; refine (rbad_any _ _).mono ?_; rintro e w' ⟨rfl, rfl⟩; rw [HF.out])
              go_round
              case rel => exact ⟨k + 1, by omega, by go_num, HA2.out⟩
              case measure => simp [intOf]; omega
    · have hlt' : ¬ (k : Int) < (X.size : Int) := by omega
      have HAll := hid (show allN X.data.toList = true by rw [← HA.out, drop_none X k hlt]; rfl)
      have hcut := rcut_any X 46 w2 hXs
      rw [show ((46 : UInt8).toNat : Int) = 46 from rfl] at hcut
      have HCd := hid (coded_eq X.data.toList)
      have HLs := hid (show ∀ x ∈ cutL 46 X.data.toList, x.length ≤ 1000000 by
        intro x hx
        have := cutL_le 46 _ x hx
        simp at this
        omega)
      have hLl : (cutL 46 X.data.toList).length ≤ 1000001 := by
        have := cutL_count 46 X.data.toList
        simp at this
        omega
      generalize cutL 46 X.data.toList = L at *
      go_wp2_with fail
      refine hcut.mono ?_
      rintro e w3 ⟨b, cap, rfl, hlc, hcm, htx, hb3⟩
      clear hcut
      have HT := hid htx
      have hbw := below2 hb hb3
      clear htx hb3
      unfold maxLen at hcm
      go_wp2_with fail
      go_loop [11] (fun i => ∃ q : Nat, q ≤ L.length ∧ i = .int .i64 q ∧ (L.drop q).any (fun p => Lib.hasPrefix p xn) = coded X.data.toList) (fun i => L.length - (intOf i).toNat)
      case atStart => exact ⟨0, Nat.zero_le _, rfl, by rw [List.drop_zero, HCd.out]⟩
      case round =>
        obtain ⟨q, hq, rfl, hany⟩ := hrel
        have HQ := hid hany
        clear hany
        by_cases hql : q < L.length
        · have hql' : (q : Int) < (L.length : Int) := by omega
          have hcell := HT.out q hql
          have HDq := hid (show L.drop q = L[q]'hql :: L.drop (q + 1) from List.drop_eq_getElem_cons hql)
          have hYs : (⟨(L[q]'hql).toArray⟩ : ByteArray).size ≤ 4000000000 := by
            have := HLs.out _ (List.getElem_mem hql)
            show (L[q]'hql).toArray.size ≤ _
            simp; omega
          have HBg := hid (fun W => begins_any ⟨(L[q]'hql).toArray⟩ ⟨#[120, 110, 45, 45]⟩ W hYs (by decide))
          rw [show (⟨(L[q]'hql).toArray⟩ : ByteArray).data.toList = L[q]'hql from rfl, show (⟨#[120, 110, 45, 45]⟩ : ByteArray).data.toList = xn from rfl] at HBg
          cases hx : Lib.hasPrefix (L[q]'hql) xn with
          | true =>
            have HN := hid (show parseV s.data.toList true = none by
              rw [HV.out]
              refine nameV_bad (.inr (.inr ?_))
              rw [← HQ.out, HDq.out, List.any_cons, hx]; rfl)
            rw [hx] at HBg
            clear hx
            go_wp2_with (go_at_call 119; refine (HBg.out _).mono ?_; rintro e w' ⟨rfl, rfl⟩)
            go_ret2
            exact parse2_none HN.out hbw
          | false =>
            have HQ2 := hid (show (L.drop (q + 1)).any (fun p => Lib.hasPrefix p xn) = coded X.data.toList by rw [← HQ.out, HDq.out, List.any_cons, hx]; rfl)
            rw [hx] at HBg
            clear hx
            go_wp2_with (go_at_call 119; refine (HBg.out _).mono ?_; rintro e w' ⟨rfl, rfl⟩)
            go_round
            case rel => exact ⟨q + 1, by omega, by go_num, HQ2.out⟩
            case measure => simp [intOf]; omega
        · have hql' : ¬ (q : Int) < (L.length : Int) := by omega
          have HC := hid (show coded X.data.toList = false by rw [← HQ.out, List.drop_eq_nil_of_le (by omega)]; rfl)
          by_cases h0 : X.data.toList = []
          · have he := empty_yes X h0
            have HN := hid (show parseV s.data.toList true = none by rw [HV.out]; exact nameV_bad (.inl h0))
            clear h0
            go_wp2_with fail
            go_ret2
            exact parse2_none HN.out hbw
          · have he := empty_no X h0
            have HNm := hid (rnumbered_any X w3 hXs)
            cases hnb : numberedV X.data.toList with
            | false =>
              have HN := hid (show parseV s.data.toList true = some X.data.toList by rw [HV.out]; exact nameV_name h0 HAll.out HC.out hnb)
              rw [hnb] at HNm
              clear h0 hnb
              go_wp2_with fail
              refine HNm.out.mono ?_
              rintro e w4 ⟨rfl, hb4⟩
              go_wp2_with fail
              go_ret2
              exact parse2_some HN.out (ba_self X) (below2 hbw hb4)
            | true =>
              have HV2 := hid (show parseV s.data.toList true = (fourV X.data.toList).map text4 by rw [HV.out]; exact nameV_num h0 HAll.out HC.out hnb)
              rw [hnb] at HNm
              clear h0 hnb
              go_wp2_with fail
              refine HNm.out.mono ?_
              rintro e w4 ⟨rfl, hb4⟩
              have hbw4 := below2 hbw hb4
              clear hb4
              have h4 := rfour_any X w4 hXs
              unfold Four2Post at h4
              cases hf : fourV X.data.toList with
              | none =>
                have HN := hid (show parseV s.data.toList true = none by rw [HV2.out, hf]; rfl)
                rw [hf] at h4
                have H4 := hid (show Calls Tryz.prog 231 #[.string X] w4 (fun e w' => e = .returned (.tuple #[.int .u32 0, .bool false]) ∧ Below w4.heap.size w4 w') from h4)
                clear hf h4
                go_wp2_with fail
                refine H4.out.mono ?_
                rintro e w5 ⟨rfl, hb5⟩
                go_wp2_with fail
                go_ret2
                exact parse2_none HN.out (below2 hbw4 hb5)
              | some n =>
                have HN := hid (show parseV s.data.toList true = some (text4 n) by rw [HV2.out, hf]; rfl)
                have hn := fourV_lt hf
                rw [hf] at h4
                have H4 := hid (show Calls Tryz.prog 231 #[.string X] w4 (fun e w' => e = .returned (.tuple #[.int .u32 n, .bool true]) ∧ Below w4.heap.size w4 w') from h4)
                clear hf h4
                go_wp2_with fail
                refine H4.out.mono ?_
                rintro e w5 ⟨rfl, hb5⟩
                go_wp2_with fail
                refine (rtext4_any n w5 hn).mono ?_
                rintro e w6 ⟨rfl, hb6⟩
                go_wp2_with fail
                go_ret2
                exact parse2_some HN.out rfl (below2 (below2 hbw4 hb5) hb6)

theorem rparse_any (s : ByteArray) (special : Bool) (w : World) (hs : s.size ≤ 1000000) :
    Calls Tryz.prog 200 #[.string s, .bool special] w (Parse2Post (parseV s.data.toList special) w) := by
  cases hp : Lib.hasPrefix s.data.toList [91] with
  | true => exact rparse_six s special w hs hp
  | false =>
    cases special with
    | true => exact rparse_name s w hs hp
    | false => exact rparse_other s w hs hp

end Go.Proofs.YtkhpemjjholneaaGreatDoor
