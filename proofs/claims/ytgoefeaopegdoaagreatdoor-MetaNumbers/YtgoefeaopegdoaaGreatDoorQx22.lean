/-
  Walks and plain facts that this claim leans on, put together out of 3 texts: Rn, So, Tj.
-/
import Derived.Test.YtgoefeaopegdoaaGreatDoorProg
import Derived.Test.YtgoefeaopegdoaaGreatDoorQx1
import Derived.Test.YtgoefeaopegdoaaGreatDoorQx3
import Derived.Test.YtgoefeaopegdoaaGreatDoorQx4
import Derived.Test.YtgoefeaopegdoaaGreatDoorQx6
import Derived.Test.YtgoefeaopegdoaaGreatDoorQx7
import Derived.Test.YtgoefeaopegdoaaGreatDoorQx8
import Derived.Test.YtgoefeaopegdoaaGreatDoorQx9
import Derived.Test.YtgoefeaopegdoaaGreatDoorQx10
import Derived.Test.YtgoefeaopegdoaaGreatDoorQx11
import Derived.Test.YtgoefeaopegdoaaGreatDoorQx12
import Derived.Test.YtgoefeaopegdoaaGreatDoorQx14
import Derived.Test.YtgoefeaopegdoaaGreatDoorQx17
import Derived.Test.YtgoefeaopegdoaaGreatDoorQx18
import Derived.Test.YtgoefeaopegdoaaGreatDoorQx19
import Derived.Test.YtgoefeaopegdoaaGreatDoorQx20
import Derived.Test.YtgoefeaopegdoaaGreatDoorQx21
import Derived.Lib.IndexMore
import Derived.Lib.Join
import Derived.Lib.LastIndexByte
import Derived.WalkKit
import Derived.Lib.Strings
import Derived.Lib.UnsafeStr
import Derived.Laws.IdiomStrings
import Derived.Laws.AppendOwn
import Derived.Laws.BitsAllLaws
import Derived.Lib.Bytealg
import Derived.Lib.BufferMore
import Derived.Shelf.Strings.Builder1
import Derived.Shelf.Strings.Builder2
import Derived.Shelf.Strings.OnBuilder
import Derived.Shelf.Strings.Trim
import Derived.Shelf.Small.Utf8
import Derived.Shelf.Small.Bits
import Derived.Shelf.Small.Strs
import Derived.Shelf.Small.Wraps
import Derived.Shelf.Strings.BuilderF
import Derived.Shelf.Strings.BuilderK
import Derived.Shelf.Strings.BuilderRune
import Derived.Shelf.Utf8.AppendRune
import Derived.Shelf.Utf8.AppendRunePlain
import Derived.Shelf.Strings.Builder2Cap
import Derived.Shelf.Strconv.Itoa0
import Derived.Shelf.Strconv.Itoa1
import Derived.Shelf.LaysM
import Derived.Shelf.Strconv.Itoa2
import Derived.Shelf.Strconv.Itoa3
import Derived.Shelf.Strings.Search1
import Derived.Shelf.Strings.Search2
import Derived.Shelf.Strings.Search3
import Derived.Shelf.Strings.Cut
import Derived.Shelf.Strings.Count
import Derived.Shelf.Strings.Shaped
import Derived.Shelf.Strings.LastIndex
import Derived.Shelf.Strings.Prefix
import Derived.Shelf.Strings.Split
import Derived.Shelf.Strings.Replace
import Derived.Shelf.Strings.Runes
import Derived.Shelf.Strings.IndexAny
import Derived.Shelf.Strings.AsciiSet
import Derived.Shelf.Strings.IndexAnyAll
import Derived.Shelf.Unicode.DecodeSlow
import Derived.Ground.Names2Prog
import Derived.Shelf.Slices.Clone
import Derived.Shelf.Slices.In.SortNone
import Derived.Ground.SlgnProg
import Derived.Shelf.SlicesE.Clone
import Derived.WalkSpells
import Derived.WalkLawsBesides
import Derived.Lib.AppendIntMem
import Derived.Lib.SmallJoins
import Derived.WalkSmall
import Derived.WalkMore
import Derived.Deep.LoopGhost
import Derived.OwnWalk
import Derived.Laws.CopyOwn
import Derived.Laws.ResultCell
import Derived.Deep.MidRow
import Derived.Deep.RegionWith
import Derived.Lib.FrozenHead2
import Derived.Lib.OthersKept
import Derived.Lib.Builder
import Derived.Lib.BufferRead
import Derived.Lib.RuneBytes
import Derived.Laws.RangeAny
import Derived.LoopN
import Derived.RegionTactic
import Derived.Deep.QuietTactic
import Derived.BigQuiet
import Derived.Deep.RegionLaw
import Derived.Laws.OwnMore
import Derived.BigRegion
import Derived.Laws.AppendOwnNone
import Derived.Deep.Cut
import Derived.Scope
import Derived.ScopeJumps
import Derived.Lib.IndexAny
import Derived.Lib.Replace
import Derived.Lib.TrimByte
import Derived.Lib.ItoaNum
import Derived.Lib.DecodeN
import Derived.Laws.BytesString
import Derived.Deep.WholeRow
set_option linter.unusedSimpArgs false
set_option linter.unusedVariables false

namespace Go.Proofs.YtgoefeaopegdoaaGreatDoor
open Go.RowKit

theorem numeral_dec8 (n : Nat) (w : World) (h : n < 256) :
  Calls Tryz.prog 330 #[.int .i64 n] w fun e w' => e = .returned (.string ⟨(dec8 n).toArray⟩) ∧ w = w' := by
 rw [dec8_digs n h]; exact numeral_nat n w (by omega)

def rt4 (n : Nat) : Nat → List UInt8
 | 4 => []
 | g => txt4 n g

theorem rt4_le (n g : Nat) : (rt4 n g).length ≤ 15 := by
 unfold rt4; split
 ·simp
 ·exact txt4_le n _

set_option maxHeartbeats 2000000 in
theorem rtext4_any (n : Nat) (w : World) (h : n < 4294967296) :
  Calls Tryz.prog 311 #[.int .u32 n] w fun e w' => e = .returned (.string ⟨(text4 n).toArray⟩) ∧ Below w.heap.size w w' := by
 have hd1 := dec8_ne (n / 16777216 % 256) (by omega)
 go_enter Tryz.func311, Tryz.ntmps311
 go_wp2
 go_loopg [3, 4] 4 (fun g s3 s4 wr => g ≤ 4 ∧ s4 = .int .i64 (8 * (g : Int) - 8) ∧ s3 = .string ⟨(rt4 n g).toArray⟩ ∧ Below w.heap.size w wr)
 case atStart => exact ⟨by omega, rfl, rfl, Below.refl _ _⟩
 case round =>
  obtain ⟨hk, rfl, rfl, hbw⟩ := hrel
  obtain rfl | rfl | rfl | rfl | rfl : gk = 0 ∨ gk = 1 ∨ gk = 2 ∨ gk = 3 ∨ gk = 4 := by omega
  ·go_wp2
   go_ret
   exact ⟨rfl, hbw⟩
  ·have hl2 := dec8_le (n % 256)
   have ha := and255 (n) (by omega)
   have hlt : n % 256 < 256 := by omega
   have HT := hid (show (⟨(rt4 n 1).toArray⟩ : ByteArray) ++ ⟨#[46]⟩ ++ ⟨(dec8 (n % 256)).toArray⟩ = ⟨(rt4 n 0).toArray⟩ by rw [show (⟨#[46]⟩ : ByteArray) = ⟨[46].toArray⟩ from rfl, ba_app, ba_app]; simp [rt4, txt4, text4])
   have hl1 := rt4_le n 1
   have he : (rt4 n 1).isEmpty = false := by simp [rt4, txt4, hd1]
   have HM := hid (fun W => numeral_dec8 (n % 256) W hlt)
   obtain ⟨m, hm⟩ : ∃ m : Nat, m = n % 256 := ⟨_, rfl⟩
   rw [← hm] at ha hlt HM hl2 HT
   clear hm
   go_wp2_with (go_at_call 330; go_must (refine (HM.out _).mono ?_; rintro e w2 ⟨rfl, rfl⟩))
   go_roundg 0
   case measure => omega
   case rel => exact ⟨by omega, by go_num, by rw [← HT.out], hbw⟩
  ·have hl2 := dec8_le (n / 256 % 256)
   have ha : bits .and .u32 ((n : Int) / 256) 255 = ((n / 256 % 256 : Nat) : Int) := and255 (n / 256) (by omega)
   have hlt : n / 256 % 256 < 256 := by omega
   have HT := hid (show (⟨(rt4 n 2).toArray⟩ : ByteArray) ++ ⟨#[46]⟩ ++ ⟨(dec8 (n / 256 % 256)).toArray⟩ = ⟨(rt4 n 1).toArray⟩ by rw [show (⟨#[46]⟩ : ByteArray) = ⟨[46].toArray⟩ from rfl, ba_app, ba_app]; simp [rt4, txt4, text4])
   have hl1 := rt4_le n 2
   have he : (rt4 n 2).isEmpty = false := by simp [rt4, txt4, hd1]
   have HM := hid (fun W => numeral_dec8 (n / 256 % 256) W hlt)
   obtain ⟨m, hm⟩ : ∃ m : Nat, m = n / 256 % 256 := ⟨_, rfl⟩
   rw [← hm] at ha hlt HM hl2 HT
   clear hm
   go_wp2_with (go_at_call 330; go_must (refine (HM.out _).mono ?_; rintro e w2 ⟨rfl, rfl⟩))
   go_roundg 1
   case measure => omega
   case rel => exact ⟨by omega, by go_num, by rw [← HT.out], hbw⟩
  ·have hl2 := dec8_le (n / 65536 % 256)
   have ha : bits .and .u32 ((n : Int) / 65536) 255 = ((n / 65536 % 256 : Nat) : Int) := and255 (n / 65536) (by omega)
   have hlt : n / 65536 % 256 < 256 := by omega
   have HT := hid (show (⟨(rt4 n 3).toArray⟩ : ByteArray) ++ ⟨#[46]⟩ ++ ⟨(dec8 (n / 65536 % 256)).toArray⟩ = ⟨(rt4 n 2).toArray⟩ by rw [show (⟨#[46]⟩ : ByteArray) = ⟨[46].toArray⟩ from rfl, ba_app, ba_app]; simp [rt4, txt4, text4])
   have hl1 := rt4_le n 3
   have he : (rt4 n 3).isEmpty = false := by simp [rt4, txt4, hd1]
   have HM := hid (fun W => numeral_dec8 (n / 65536 % 256) W hlt)
   obtain ⟨m, hm⟩ : ∃ m : Nat, m = n / 65536 % 256 := ⟨_, rfl⟩
   rw [← hm] at ha hlt HM hl2 HT
   clear hm
   go_wp2_with (go_at_call 330; go_must (refine (HM.out _).mono ?_; rintro e w2 ⟨rfl, rfl⟩))
   go_roundg 2
   case measure => omega
   case rel => exact ⟨by omega, by go_num, by rw [← HT.out], hbw⟩
  ·rw [show rt4 n 4 = [] from rfl]
   have hl2 := dec8_le (n / 16777216 % 256)
   have ha : bits .and .u32 ((n : Int) / 16777216) 255 = ((n / 16777216 % 256 : Nat) : Int) := and255 (n / 16777216) (by omega)
   have hlt : n / 16777216 % 256 < 256 := by omega
   have HT := hid (show (⟨(dec8 (n / 16777216 % 256)).toArray⟩ : ByteArray) = ⟨(rt4 n 3).toArray⟩ from rfl)
   have HM := hid (fun W => numeral_dec8 (n / 16777216 % 256) W hlt)
   obtain ⟨m, hm⟩ : ∃ m : Nat, m = n / 16777216 % 256 := ⟨_, rfl⟩
   rw [← hm] at ha hlt HM hl2 HT
   clear hm
   go_wp2_with (go_at_call 330; go_must (refine (HM.out _).mono ?_; rintro e w2 ⟨rfl, rfl⟩))
   go_roundg 3
   case measure => omega
   case rel => exact ⟨by omega, by go_num, by rw [← HT.out]; simp; exact ba_app [] _, hbw⟩

end Go.Proofs.YtgoefeaopegdoaaGreatDoor

namespace Go.Proofs.YtgoefeaopegdoaaGreatDoor
open Go.RowKit

theorem nameB_hi {c : UInt8} (h : 126 < c.toNat) : nameB c = false := by
 unfold nameB; simp [h]

theorem nameB_lo {c : UInt8} (h : c.toNat < 33) : nameB c = false := by
 unfold nameB; simp [h]

theorem nameB_pc {c : UInt8} (h : c = 37) : nameB c = false := by
 subst h; decide

theorem nameB_fb {c : UInt8} (h : forb c = true) : nameB c = false := by
 unfold nameB; simp [h]

theorem nameB_ok {c : UInt8} (h1 : ¬ 126 < c.toNat) (h2 : ¬ c.toNat < 33) (h3 : c ≠ 37) (h4 : forb c = false) : nameB c = true := by
 unfold nameB
 simp [h1, h2, h3, h4]

set_option maxHeartbeats 8000000 in
set_option maxRecDepth 100000 in
theorem rparse_name (s : ByteArray) (w : World) (hs : s.size ≤ 1000000) (hp : Lib.hasPrefix s.data.toList [91] = false) :
  Calls Tryz.prog 270 #[.string s, .bool true] w (Parse2Post (parseV s.data.toList true) w) := by
 have HV := hid (show parseV s.data.toList true = nameV (low (unpct s.data.toList)) from parseV_name hp)
 have HB := hid (fun W => begins_any s ⟨#[91]⟩ W (by omega) (by decide))
 rw [show (⟨#[91]⟩ : ByteArray).data.toList = [91] from rfl, hp] at HB
 clear hp
 have HU := hid (runpercent_any s w hs)
 have hul := unpct_le s.data.toList
 have hUs : (⟨(unpct s.data.toList).toArray⟩ : ByteArray).size ≤ 1000000 := by
  show (unpct s.data.toList).toArray.size ≤ _
  simp at hul ⊢; omega
 have HLo := hid (fun W => rlower_any ⟨(unpct s.data.toList).toArray⟩ W (by omega))
 rw [show (⟨(unpct s.data.toList).toArray⟩ : ByteArray).data.toList = unpct s.data.toList from rfl] at HLo
 have hMl : (low (unpct s.data.toList)).length ≤ 1000000 := by rw [low_length]; simp at hul; omega
 generalize low (unpct s.data.toList) = M at *
 generalize unpct s.data.toList = U at *
 obtain ⟨X, hX⟩ : ∃ X : ByteArray, X = ⟨M.toArray⟩ := ⟨_, rfl⟩
 have HXd := hid (show X.data.toList = M by rw [hX])
 have hXs : X.size ≤ 1000000 := by rw [hX]; show M.toArray.size ≤ _; simpa using hMl
 have HX := hid hX
 rw [← hX] at HLo
 rw [← HXd.out] at HV
 clear hX hMl HXd
 clear HX
 go_enter Tryz.func270, Tryz.ntmps270
 go_wp2_with (go_at_call 96; refine (HB.out _).mono ?_; rintro e w' ⟨rfl, rfl⟩)
 refine HU.out.mono ?_
 rintro e w1 ⟨rfl, hb1⟩
 go_wp2_with fail
 refine (HLo.out _).mono ?_
 rintro e w2 ⟨rfl, hb2⟩
 have hb := below2 hb1 hb2
 clear hb1 hb2 HU HLo HB hUs hul
 go_wp2_with fail
 go_loop [9] (fun i => ∃ k : Nat, k ≤ X.size ∧ i = .int .i64 k ∧ (X.data.toList.drop k).all nameB = allN X.data.toList) (fun i => X.size - (intOf i).toNat)
 case atStart => exact ⟨0, Nat.zero_le _, rfl, by rw [List.drop_zero]; rfl⟩
 case round =>
  obtain ⟨k, hk, rfl, hall⟩ := hrel
  have HA := hid hall
  clear hall
  by_cases hlt : k < X.size
  ·have hlt' : (k : Int) < (X.size : Int) := by omega
   have hc8 : X[k].toNat < 256 := X[k].toNat_lt
   have HD := hid (drop_cons X k hlt)
   have HBad := hid (show nameB X[k] = false → parseV s.data.toList true = none by
    intro h
    rw [HV.out]
    refine nameV_bad (.inr (.inl ?_))
    rw [← HA.out, HD.out, List.all_cons, h]; rfl)
   by_cases h1 : 126 < X[k].toNat
   ·have HN := hid (HBad.out (nameB_hi h1))
    have h1' : (126 : Int) < (X[k].toNat : Int) := by omega
    go_wp2_with fail
    go_ret2
    exact parse2_none HN.out hb
   ·have h1' : decide ((126 : Int) < (X[k].toNat : Int)) = false := by simp; omega
    by_cases h2 : X[k].toNat < 33
    ·have HN := hid (HBad.out (nameB_lo h2))
     have h2' : (X[k].toNat : Int) < 33 := by omega
     go_wp2_with fail
     go_ret2
     exact parse2_none HN.out hb
    ·have h2' : decide ((X[k].toNat : Int) < 33) = false := by simp; omega
     by_cases h3 : X[k] = 37
     ·have HN := hid (HBad.out (nameB_pc h3))
      have h3' : (X[k].toNat : Int) = 37 := by rw [h3]; rfl
      clear h3
      go_wp2_with fail
      go_ret2
      exact parse2_none HN.out hb
     ·have h3' : ((X[k].toNat : Int) == 37) = false := by
       rw [beq_eq_false_iff_ne]
       intro e
       exact h3 (UInt8.toNat_inj.1 (by have : (37 : UInt8).toNat = 37 := rfl; omega))
      cases h4 : forb X[k] with
      | true =>
       have HN := hid (HBad.out (nameB_fb h4))
       have HF := hid h4
       clear h4 h3
       go_wp2_with (go_at_call 308; refine (rbad_any _ _).mono ?_; rintro e w' ⟨rfl, rfl⟩; rw [HF.out])
       go_ret2
       exact parse2_none HN.out hb
      | false =>
       have HA2 := hid (show (X.data.toList.drop (k + 1)).all nameB = allN X.data.toList by rw [← HA.out, HD.out, List.all_cons, nameB_ok h1 h2 h3 h4]; rfl)
       have HF := hid h4
       clear h4 h3
       go_wp2_with (go_at_call 308; refine (rbad_any _ _).mono ?_; rintro e w' ⟨rfl, rfl⟩; rw [HF.out])
       go_round
       case rel => exact ⟨k + 1, by omega, by go_num, HA2.out⟩
       case measure => simp [intOf]; omega
  ·have hlt' : ¬ (k : Int) < (X.size : Int) := by omega
   have HAll := hid (show allN X.data.toList = true by rw [← HA.out, drop_none X k hlt]; rfl)
   have hcut := rcut_any X 46 w2 hXs
   rw [show ((46 : UInt8).toNat : Int) = 46 from rfl] at hcut
   have HCd := hid (coded_eq X.data.toList)
   have HLs := hid (show ∀ x ∈ cutL 46 X.data.toList, x.length ≤ 1000000 by
    intro x hx
    have := cutL_le 46 _ x hx
    simp at this
    omega)
   have hLl : (cutL 46 X.data.toList).length ≤ 1000001 := by
    have := cutL_count 46 X.data.toList
    simp at this
    omega
   generalize cutL 46 X.data.toList = L at *
   go_wp2_with fail
   refine hcut.mono ?_
   rintro e w3 ⟨b, cap, rfl, hlc, hcm, htx, hb3⟩
   clear hcut
   have HT := hid htx
   have hbw := below2 hb hb3
   clear htx hb3
   unfold maxLen at hcm
   go_wp2_with fail
   go_loop [11] (fun i => ∃ q : Nat, q ≤ L.length ∧ i = .int .i64 q ∧ (L.drop q).any (fun p => Lib.hasPrefix p xn) = coded X.data.toList) (fun i => L.length - (intOf i).toNat)
   case atStart => exact ⟨0, Nat.zero_le _, rfl, by rw [List.drop_zero, HCd.out]⟩
   case round =>
    obtain ⟨q, hq, rfl, hany⟩ := hrel
    have HQ := hid hany
    clear hany
    by_cases hql : q < L.length
    ·have hql' : (q : Int) < (L.length : Int) := by omega
     have hcell := HT.out q hql
     have HDq := hid (show L.drop q = L[q]'hql :: L.drop (q + 1) from List.drop_eq_getElem_cons hql)
     have hYs : (⟨(L[q]'hql).toArray⟩ : ByteArray).size ≤ 4000000000 := by
      have := HLs.out _ (List.getElem_mem hql)
      show (L[q]'hql).toArray.size ≤ _
      simp; omega
     have HBg := hid (fun W => begins_any ⟨(L[q]'hql).toArray⟩ ⟨#[120, 110, 45, 45]⟩ W hYs (by decide))
     rw [show (⟨(L[q]'hql).toArray⟩ : ByteArray).data.toList = L[q]'hql from rfl, show (⟨#[120, 110, 45, 45]⟩ : ByteArray).data.toList = xn from rfl] at HBg
     cases hx : Lib.hasPrefix (L[q]'hql) xn with
     | true =>
      have HN := hid (show parseV s.data.toList true = none by
       rw [HV.out]
       refine nameV_bad (.inr (.inr ?_))
       rw [← HQ.out, HDq.out, List.any_cons, hx]; rfl)
      rw [hx] at HBg
      clear hx
      go_wp2_with (go_at_call 96; refine (HBg.out _).mono ?_; rintro e w' ⟨rfl, rfl⟩)
      go_ret2
      exact parse2_none HN.out hbw
     | false =>
      have HQ2 := hid (show (L.drop (q + 1)).any (fun p => Lib.hasPrefix p xn) = coded X.data.toList by rw [← HQ.out, HDq.out, List.any_cons, hx]; rfl)
      rw [hx] at HBg
      clear hx
      go_wp2_with (go_at_call 96; refine (HBg.out _).mono ?_; rintro e w' ⟨rfl, rfl⟩)
      go_round
      case rel => exact ⟨q + 1, by omega, by go_num, HQ2.out⟩
      case measure => simp [intOf]; omega
    ·have hql' : ¬ (q : Int) < (L.length : Int) := by omega
     have HC := hid (show coded X.data.toList = false by rw [← HQ.out, List.drop_eq_nil_of_le (by omega)]; rfl)
     by_cases h0 : X.data.toList = []
     ·have he := empty_yes X h0
      have HN := hid (show parseV s.data.toList true = none by rw [HV.out]; exact nameV_bad (.inl h0))
      clear h0
      go_wp2_with fail
      go_ret2
      exact parse2_none HN.out hbw
     ·have he := empty_no X h0
      have HNm := hid (rnumbered_any X w3 hXs)
      cases hnb : numberedV X.data.toList with
      | false =>
       have HN := hid (show parseV s.data.toList true = some X.data.toList by rw [HV.out]; exact nameV_name h0 HAll.out HC.out hnb)
       rw [hnb] at HNm
       clear h0 hnb
       go_wp2_with fail
       refine HNm.out.mono ?_
       rintro e w4 ⟨rfl, hb4⟩
       go_wp2_with fail
       go_ret2
       exact parse2_some HN.out (ba_self X) (below2 hbw hb4)
      | true =>
       have HV2 := hid (show parseV s.data.toList true = (fourV X.data.toList).map text4 by rw [HV.out]; exact nameV_num h0 HAll.out HC.out hnb)
       rw [hnb] at HNm
       clear h0 hnb
       go_wp2_with fail
       refine HNm.out.mono ?_
       rintro e w4 ⟨rfl, hb4⟩
       have hbw4 := below2 hbw hb4
       clear hb4
       have h4 := rfour_any X w4 hXs
       unfold Four2Post at h4
       cases hf : fourV X.data.toList with
       | none =>
        have HN := hid (show parseV s.data.toList true = none by rw [HV2.out, hf]; rfl)
        rw [hf] at h4
        have H4 := hid (show Calls Tryz.prog 310 #[.string X] w4 (fun e w' => e = .returned (.tuple #[.int .u32 0, .bool false]) ∧ Below w4.heap.size w4 w') from h4)
        clear hf h4
        go_wp2_with fail
        refine H4.out.mono ?_
        rintro e w5 ⟨rfl, hb5⟩
        go_wp2_with fail
        go_ret2
        exact parse2_none HN.out (below2 hbw4 hb5)
       | some n =>
        have HN := hid (show parseV s.data.toList true = some (text4 n) by rw [HV2.out, hf]; rfl)
        have hn := fourV_lt hf
        rw [hf] at h4
        have H4 := hid (show Calls Tryz.prog 310 #[.string X] w4 (fun e w' => e = .returned (.tuple #[.int .u32 n, .bool true]) ∧ Below w4.heap.size w4 w') from h4)
        clear hf h4
        go_wp2_with fail
        refine H4.out.mono ?_
        rintro e w5 ⟨rfl, hb5⟩
        go_wp2_with fail
        refine (rtext4_any n w5 hn).mono ?_
        rintro e w6 ⟨rfl, hb6⟩
        go_wp2_with fail
        go_ret2
        exact parse2_some HN.out rfl (below2 (below2 hbw4 hb5) hb6)

theorem rparse_any (s : ByteArray) (special : Bool) (w : World) (hs : s.size ≤ 1000000) :
  Calls Tryz.prog 270 #[.string s, .bool special] w (Parse2Post (parseV s.data.toList special) w) := by
 cases hp : Lib.hasPrefix s.data.toList [91] with
 | true => exact rparse_six s special w hs hp
 | false =>
  cases special with
  | true => exact rparse_name s w hs hp
  | false => exact rparse_other s w hs hp

end Go.Proofs.YtgoefeaopegdoaaGreatDoor

namespace Go.Proofs.YtgoefeaopegdoaaGreatDoor
open Go.RowKit

theorem at_here (s : ByteArray) (i : Nat) (hi : i < s.size) (h : s[i] = 64) (hno : 64 ∉ s.data.toList.drop (i + 1)) : atV s.data.toList = (s.data.toList.take i, s.data.toList.drop (i + 1)) := by
 have e : s.data.toList = s.data.toList.take i ++ 64 :: s.data.toList.drop (i + 1) := by
  have := (List.take_append_drop i s.data.toList).symm
  rw [drop_cons s i hi, h] at this
  exact this
 have h2 := at_some (s.data.toList.take i) (s.data.toList.drop (i + 1)) hno
 rw [← e] at h2
 exact h2

theorem drop_at (s : ByteArray) (i k : Nat) (hi : i < k) (hk : k < s.size) : (s.data.toList.take (k + 1)).drop (i + 1) = (s.data.toList.take k).drop (i + 1) ++ [s[k]] := by
 rw [take_snoc s k hk, List.drop_append_of_le_length (by simp; omega)]

theorem portB {own : Int} {t : List UInt8} (h : t ≠ []) (hb : intOk t = false ∨ 65535 < intV t) : portV own t = none := by
 unfold portV
 rw [if_neg h]
 have : (intOk t && decide (intV t ≤ 65535)) = false := by
  rcases hb with h1 | h1
  ·rw [h1]; rfl
  ·rw [decide_eq_false (by omega), Bool.and_false]
 rw [this]; rfl

theorem portG {own : Int} {t : List UInt8} (h : t ≠ []) (h1 : intOk t = true) (h2 : intV t ≤ 65535) : portV own t = some (if intV t = own then -1 else intV t) := by
 unfold portV
 rw [if_neg h, h1, decide_eq_true h2]; rfl

set_option maxHeartbeats 8000000 in
set_option maxRecDepth 100000 in
theorem rauthority_any (s : ByteArray) (b : Nat) (u : Adr) (pv : Value) (w : World) (hs : s.size ≤ 100000) (hA : AdrIn w b u pv) (hup : u.user = [] ∧ u.pass = []) :
  Calls Tryz.prog 241 #[.pointer (some ⟨b, 0, none⟩), .string s] w (AuthPost b u pv (authV u.scheme s.data.toList) w) := by
 have HAd := hid hA
 have HLt := hid (Nat.le_of_lt hA.lt)
 have HUp := hid hup
 clear hA hup
 obtain ⟨res, hres⟩ : ∃ r, r = authV u.scheme s.data.toList := ⟨_, rfl⟩
 rw [← hres]
 have HRes := hid hres
 clear hres
 have HOwn : Hid (∀ w : World, Calls Tryz.prog 178 #[.string ⟨u.scheme.toArray⟩] w fun e w' => e = .returned (.int .i64 (ownV u.scheme)) ∧ w = w') := fun w => rown_any ⟨u.scheme.toArray⟩ w
 have HSpec : Hid (∀ w : World, Calls Tryz.prog 122 #[.string ⟨u.scheme.toArray⟩] w fun e w' => e = .returned (.bool (specV u.scheme)) ∧ w = w') := fun w => rspecial_any ⟨u.scheme.toArray⟩ w
 go_enter Tryz.func241, Tryz.ntmps241
 go_wp2
 go_loop [5, 6] (fun a i => ∃ (k : Nat) (at_ : Int), k ≤ s.size ∧ i = .int .i64 k ∧ a = .int .i64 at_ ∧ ((at_ = -1 ∧ 64 ∉ s.data.toList.take k) ∨ (∃ (j : Nat) (h : j < s.size), at_ = j ∧ j < k ∧ s[j] = 64 ∧ 64 ∉ (s.data.toList.take k).drop (j + 1)))) (fun _ i => s.size - (intOf i).toNat)
 case atStart => exact ⟨0, -1, Nat.zero_le _, rfl, rfl, .inl ⟨rfl, by simp⟩⟩
 case round =>
  obtain ⟨k, at_, hk, rfl, rfl, hor⟩ := hrel
  have HOr := hid hor
  clear hor
  by_cases hlt : k < s.size
  ·have hlt' : (k : Int) < (s.size : Int) := by omega
   by_cases h64 : s[k] = 64
   ·have e64 : ((s[k].toNat : Int) == 64) = true := byte_is h64
    have HN := hid h64
    clear h64
    go_wp2
    go_round
    case rel =>
     refine ⟨k + 1, k, by omega, by go_num, rfl, .inr ⟨k, hlt, rfl, by omega, HN.out, ?_⟩⟩
     rw [List.drop_eq_nil_of_le (by simp <;> omega)]; simp
    case measure => simp [intOf]; omega
   ·have e64 : ((s[k].toNat : Int) == 64) = false := byte_not h64
    have HN := hid h64
    clear h64
    go_wp2
    go_round
    case rel =>
     refine ⟨k + 1, at_, by omega, by go_num, rfl, ?_⟩
     rcases HOr.out with ⟨h1, h2⟩ | ⟨j, hj, h1, h2, h3, h4⟩
     ·refine .inl ⟨h1, ?_⟩
      rw [take_snoc s k hlt, List.mem_append]
      rintro (h | h)
      ·exact h2 h
      ·exact HN.out (List.mem_singleton.1 h).symm
     ·refine .inr ⟨j, hj, h1, by omega, h3, ?_⟩
      rw [drop_at s j k h2 hlt, List.mem_append]
      rintro (h | h)
      ·exact h4 h
      ·exact HN.out (List.mem_singleton.1 h).symm
    case measure => simp [intOf]; omega
  ·have hlt' : ¬ (k : Int) < (s.size : Int) := by omega
   have hall : s.data.toList.take k = s.data.toList := take_all s k hlt
   have hle := at_le s.data.toList
   obtain ⟨UI, hUI⟩ : ∃ X : ByteArray, X = ⟨(atV s.data.toList).1.toArray⟩ := ⟨_, rfl⟩
   obtain ⟨T, hT⟩ : ∃ X : ByteArray, X = ⟨(atV s.data.toList).2.toArray⟩ := ⟨_, rfl⟩
   have hUIl : UI.data.toList = (atV s.data.toList).1 := by rw [hUI]
   have hTl : T.data.toList = (atV s.data.toList).2 := by rw [hT]
   have hUIs : UI.size ≤ 100000 := by rw [hUI]; exact size_le hle.1 hs
   have hTs : T.size ≤ 100000 := by rw [hT]; exact size_le hle.2 hs
   have hat : (at_ = -1 ∧ UI.data.toList = [] ∧ s = T) ∨ (∃ i : Nat, i < s.size ∧ at_ = i ∧ s.extract 0 i = UI ∧ s.extract (i + 1) s.size = T) := by
    rcases HOr.out with ⟨h1, h2⟩ | ⟨j, hj, h1, h2, h3, h4⟩
    ·rw [hall] at h2
     have := at_none _ h2
     exact .inl ⟨h1, by rw [hUIl, this], by rw [hT, this]⟩
    ·rw [hall] at h4
     have := at_here s j hj h3 h4
     refine .inr ⟨j, hj, h1, ?_, ?_⟩
     ·rw [hUI, this]; exact ba_ext (by rw [Lib.extract_data]; simp)
     ·rw [hT, this]; exact ba_ext (by rw [extract_drop])
   have hpl := part_le 58 UI.data.toList
   obtain ⟨A1, hA1⟩ : ∃ X : ByteArray, X = ⟨(part 58 UI.data.toList).1.toArray⟩ := ⟨_, rfl⟩
   obtain ⟨A2, hA2⟩ : ∃ X : ByteArray, X = ⟨(part 58 UI.data.toList).2.1.toArray⟩ := ⟨_, rfl⟩
   obtain ⟨ok1, hok1⟩ : ∃ b, b = (part 58 UI.data.toList).2.2 := ⟨_, rfl⟩
   have hA1s : A1.size ≤ 100000 := by rw [hA1]; exact size_le hpl.1 hUIs
   have hA2s : A2.size ≤ 100000 := by rw [hA2]; exact size_le hpl.2 hUIs
   have HCut : Hid (∀ w : World, Calls Tryz.prog 79 #[.string UI, .int .u8 58] w fun e w' => e = .returned (.tuple #[.string A1, .string A2, .bool ok1]) ∧ Below w.heap.size w w') := fun w => by
    rw [hA1, hA2, hok1]; exact rpart_any UI 58 w (by omega)
   obtain ⟨P1, hp1⟩ : ∃ x : ByteArray, x = ⟨(pct 6 A1.data.toList).toArray⟩ := ⟨_, rfl⟩
   obtain ⟨P2, hp2⟩ : ∃ x : ByteArray, x = ⟨(pct 6 A2.data.toList).toArray⟩ := ⟨_, rfl⟩
   have HP1 : Hid (∀ w : World, Calls Tryz.prog 207 #[.string A1, .int .i64 6] w fun e w' => e = .returned (.string P1) ∧ Below w.heap.size w w') := fun w => by
    have := rpctS_any A1 6 w (by omega)
    rw [← hp1] at this
    exact this
   have HP2 : Hid (∀ w : World, Calls Tryz.prog 207 #[.string A2, .int .i64 6] w fun e w' => e = .returned (.string P2) ∧ Below w.heap.size w w') := fun w => by
    have := rpctS_any A2 6 w (by omega)
    rw [← hp2] at this
    exact this
   have HEm := hid (show UI.data.toList = [] → P1.data.toList = [] ∧ P2.data.toList = [] by
    intro h
    rw [hp1, hp2, hA1, hA2, h]
    exact ⟨rfl, rfl⟩)
   have hck := colV_le T.data.toList
   obtain ⟨cv, hcv⟩ : ∃ k, k = colV T.data.toList := ⟨_, rfl⟩
   have hcvs : cv ≤ T.size := by rw [hcv, Lib.size_eq]; exact hck
   obtain ⟨D, hD⟩ : ∃ X : ByteArray, X = ⟨((T.data.toList.drop cv).drop 1).toArray⟩ := ⟨_, rfl⟩
   have hDs : D.size ≤ 100000 := by rw [hD]; exact size_le (by simp <;> omega) hTs
   obtain ⟨H, hH⟩ : ∃ X : ByteArray, X = T.extract 0 cv := ⟨_, rfl⟩
   have hHl : H.data.toList = T.data.toList.take cv := by rw [hH, Lib.extract_data]; simp
   have hHs : H.size ≤ 100000 := by rw [hH]; simp <;> omega
   have HE1 : Hid (portV (ownV u.scheme) D.data.toList = none → res = .error 11) := fun h => by
    rw [HRes.out]; exact auth_port (by rw [← hTl, ← hcv]; rw [hD] at h; exact h)
   have HE2 : Hid (∀ p, portV (ownV u.scheme) D.data.toList = some p → parseV H.data.toList (specV u.scheme) = none → res = .error 10) := fun p h h2 => by
    rw [HRes.out]; exact auth_host (p := p) (by rw [← hTl, ← hcv]; rw [hD] at h; exact h) (by rw [← hTl, ← hcv, ← hHl]; exact h2)
   have HE3 : Hid (∀ p h, portV (ownV u.scheme) D.data.toList = some p → parseV H.data.toList (specV u.scheme) = some h → (h = [] ∧ (P1.data.toList ≠ [] ∨ P2.data.toList ≠ [] ∨ D.data.toList ≠ [])) → res = .error 10) := fun p h h1 h2 h3 => by
    rw [HRes.out]; exact auth_empty (p := p) (h := h) (by rw [← hTl, ← hcv]; rw [hD] at h1; exact h1) (by rw [← hTl, ← hcv, ← hHl]; exact h2) (by rw [← hTl, ← hcv, ← hUIl]; rw [hp1, hp2, hA1, hA2, hD] at h3; exact h3)
   have HE4 : Hid (∀ p h, portV (ownV u.scheme) D.data.toList = some p → parseV H.data.toList (specV u.scheme) = some h → ¬ (h = [] ∧ (P1.data.toList ≠ [] ∨ P2.data.toList ≠ [] ∨ D.data.toList ≠ [])) → res = .ok (P1.data.toList, P2.data.toList, h, p)) := fun p h h1 h2 h3 => by
    rw [HRes.out, auth_ok (p := p) (h := h) (by rw [← hTl, ← hcv]; rw [hD] at h1; exact h1) (by rw [← hTl, ← hcv, ← hHl]; exact h2) (by rw [← hTl, ← hcv, ← hUIl]; rw [hp1, hp2, hA1, hA2, hD] at h3; exact h3), ← hUIl, hp1, hp2, hA1, hA2]
   have HDc := hid (show (cv = T.size ∧ D.data.toList = [] ∧ H = T) ∨ (cv < T.size ∧ T.extract (cv + 1) T.size = D ∧ T.extract 0 cv = H) by
    rcases Nat.lt_or_ge cv T.size with h | h
    ·refine .inr ⟨h, ?_, hH.symm⟩
     rw [hD]; exact ba_ext (by rw [extract_drop, List.drop_drop])
    ·have h2 : cv = T.size := by omega
     refine .inl ⟨h2, ?_, ?_⟩
     ·rw [hD, h2]; show List.drop 1 (List.drop T.size T.data.toList) = []; rw [List.drop_drop]; exact List.drop_eq_nil_of_le (by simp)
     ·rw [hH, h2]; exact ba_ext (by rw [Lib.extract_data, List.drop_zero, Nat.sub_zero, List.take_of_length_le (by simp)]))
   have HCv := hid hcv
   clear HOr hUI hT hUIl hTl hle hpl hA1 hA2 hok1 hp1 hp2 hck hcv hD hH hHl hall
   go_upto_if 31 with fail
   go_cut [1] from 30 (fun x wc => x = .string T ∧ Below b w wc ∧ AdrIn wc b { u with user := P1.data.toList, pass := P2.data.toList } pv)
   case first =>
    rcases hat with ⟨h1, h2, h3⟩ | ⟨i, hi, h1, h2, h3⟩
    ·subst h1
     have HH3 := hid h3
     clear h3
     go_wp2_with fail
     go_meet
     case rel =>
      refine ⟨by rw [HH3.out], Below.refl _ _, ?_⟩
      have e := HEm.out h2
      have : ({ u with user := P1.data.toList, pass := P2.data.toList } : Adr) = u := by
       have h := HUp.out
       cases u
       simp only at h
       rw [e.1, e.2, h.1, h.2]
      rw [this]
      exact HAd.out
    ·subst h1
     have hi0 : (0 : Int) ≤ (i : Int) := by omega
     have hi1 : (i : Int) ≤ (s.size : Int) := by omega
     have hi2 : (0 : Int) ≤ (i : Int) + 1 ∧ (i : Int) + 1 ≤ (s.size : Int) := by omega
     have HH2 := hid h2
     have HH3 := hid h3
     clear h2 h3
     go_wp2_with fail
     rw [HH2.out]
     refine (HCut.out _).mono ?_
     rintro e w1 ⟨rfl, hb1⟩
     have H1 := hid (HAd.out.kept hb1)
     have HB1 := hid hb1
     clear hb1
     go_wp2_with fail
     refine (HP1.out w1).mono ?_
     rintro e w2 ⟨rfl, hb2⟩
     have h2 := H1.out.kept hb2
     have hc1 := h2.cell 1 _ rfl
     have hf1 := h2.frozen 1
     have H2 := hid (show AdrIn (w2.setCell ⟨b, 1, none⟩ (.string P1)) b { u with user := P1.data.toList } pv from h2.set 1 _ rfl)
     have HB2 := hid (show Below b w (w2.setCell ⟨b, 1, none⟩ (.string P1)) from ((below2 HB1.out hb2).mono HLt.out).setCell (p := ⟨b, 1, none⟩) (Nat.le_refl _) _)
     clear hb2 h2
     go_wp2_with fail
     generalize (w2.setCell ⟨b, 1, none⟩ (.string P1)) = w3 at *
     refine (HP2.out w3).mono ?_
     rintro e w4 ⟨rfl, hb4⟩
     have h4 := H2.out.kept hb4
     have hc2 := h4.cell 2 _ rfl
     have hf2 := h4.frozen 2
     have H4 := hid (show AdrIn (w4.setCell ⟨b, 2, none⟩ (.string P2)) b { u with user := P1.data.toList, pass := P2.data.toList } pv from h4.set 2 _ rfl)
     have HB4 := hid (show Below b w (w4.setCell ⟨b, 2, none⟩ (.string P2)) from (HB2.out.trans (hb4.mono (Nat.le_of_lt H2.out.lt))).setCell (p := ⟨b, 2, none⟩) (Nat.le_refl _) _)
     clear hb4 h4
     go_wp2_with fail
     go_meet
     case rel => exact ⟨by rw [← HH3.out], HB4.out, H4.out⟩
   case rest =>
    obtain ⟨rfl, hbc, hac⟩ := hcut
    have HB4 := hid hbc
    have H4 := hid hac
    have hc0 := hac.cell 0 _ rfl
    clear hbc hac
    go_wp2
    go_loop [10, 11, 12] (fun c inb i => ∃ (n k : Nat) (bi : Bool) (ci : Int), n ≤ T.size ∧ i = .int .i64 n ∧ inb = .bool bi ∧ c = .int .i64 ci ∧ ((k = T.size ∧ ci = -1) ∨ (k < T.size ∧ ci = k)) ∧ colN bi n k (T.data.toList.drop n) = colV T.data.toList) (fun _ _ i => T.size - (intOf i).toNat)
    case atStart => exact ⟨0, T.size, false, -1, Nat.zero_le _, rfl, rfl, rfl, .inl ⟨rfl, rfl⟩, by rw [List.drop_zero, colV, Lib.size_eq]⟩
    case round =>
     obtain ⟨n, k2, bi, ci, hn, rfl, rfl, rfl, hki, hcol⟩ := hrel
     have HC := hid hcol
     have HKi := hid hki
     clear hcol hki
     by_cases hlt2 : n < T.size
     ·have hlt2' : (n : Int) < (T.size : Int) := by omega
      have HD := hid (drop_cons T n hlt2)
      by_cases h91 : T[n] = 91
      ·have e91 : ((T[n].toNat : Int) == 91) = true := byte_is h91
       have HN := hid (show colN true (n + 1) k2 (T.data.toList.drop (n + 1)) = colV T.data.toList by
        rw [← HC.out, HD.out, h91]
        cases bi <;> rfl)
       clear h91
       go_wp2
       go_round
       case rel => exact ⟨n + 1, k2, true, ci, by omega, by go_num, rfl, rfl, HKi.out, HN.out⟩
       case measure => simp [intOf]; omega
      ·have e91 : ((T[n].toNat : Int) == 91) = false := byte_not h91
       by_cases h93 : T[n] = 93
       ·have e93 : ((T[n].toNat : Int) == 93) = true := byte_is h93
        have HN := hid (show colN false (n + 1) k2 (T.data.toList.drop (n + 1)) = colV T.data.toList by
         rw [← HC.out, HD.out, h93]
         cases bi <;> rfl)
        clear h91 h93
        go_wp2
        go_round
        case rel => exact ⟨n + 1, k2, false, ci, by omega, by go_num, rfl, rfl, HKi.out, HN.out⟩
        case measure => simp [intOf]; omega
       ·have e93 : ((T[n].toNat : Int) == 93) = false := byte_not h93
        by_cases h58 : T[n] = 58
        ·have e58 : ((T[n].toNat : Int) == 58) = true := byte_is h58
         cases bi with
         | true =>
          have HN := hid (show colN true (n + 1) k2 (T.data.toList.drop (n + 1)) = colV T.data.toList by rw [← HC.out, HD.out, h58]; rfl)
          clear h91 h93 h58
          go_wp2
          go_round
          case rel => exact ⟨n + 1, k2, true, ci, by omega, by go_num, rfl, rfl, HKi.out, HN.out⟩
          case measure => simp [intOf]; omega
         | false =>
          have HN := hid (show colN false (n + 1) n (T.data.toList.drop (n + 1)) = colV T.data.toList by rw [← HC.out, HD.out, h58]; rfl)
          clear h91 h93 h58
          go_wp2
          go_round
          case rel => exact ⟨n + 1, n, false, n, by omega, by go_num, rfl, rfl, .inr ⟨hlt2, rfl⟩, HN.out⟩
          case measure => simp [intOf]; omega
        ·have e58 : ((T[n].toNat : Int) == 58) = false := byte_not h58
         have HN := hid (show colN bi (n + 1) k2 (T.data.toList.drop (n + 1)) = colV T.data.toList by
          rw [← HC.out, HD.out]
          cases bi
          ·rw [colN, if_neg h58, if_neg h91]
          ·rw [colN, if_neg h93])
         clear h91 h93 h58
         go_wp2
         go_round
         case rel => exact ⟨n + 1, k2, bi, ci, by omega, by go_num, rfl, rfl, HKi.out, HN.out⟩
         case measure => simp [intOf]; omega
     ·have hlt2' : ¬ (n : Int) < (T.size : Int) := by omega
      have hk2 : k2 = cv := by
       have := HC.out
       rw [List.drop_eq_nil_of_le (by simp; omega)] at this
       rw [HCv.out, ← this]
       cases bi <;> rfl
      subst hk2
      have hcc : (ci = -1 ∧ D.data.toList = [] ∧ H = T) ∨ (k2 < T.size ∧ ci = k2 ∧ T.extract (k2 + 1) T.size = D ∧ T.extract 0 k2 = H) := by
       rcases HKi.out with ⟨h1, h2⟩ | ⟨h1, h2⟩
       ·rcases HDc.out with ⟨_, h4, h5⟩ | ⟨h3, _⟩
        ·exact .inl ⟨h2, h4, h5⟩
        ·omega
       ·rcases HDc.out with ⟨h3, _⟩ | ⟨_, h4, h5⟩
        ·omega
        ·exact .inr ⟨h1, h2, h4, h5⟩
      have hc5 := H4.out.cell 5 _ rfl
      have hf5 := H4.out.frozen 5
      have H5 := hid (show AdrIn (wc.setCell ⟨b, 5, none⟩ (.int .i64 (-1))) b { u with user := P1.data.toList, pass := P2.data.toList, port := -1 } pv from H4.out.set 5 _ rfl)
      have HB5 := hid (show Below b w (wc.setCell ⟨b, 5, none⟩ (.int .i64 (-1))) from HB4.out.setCell (p := ⟨b, 5, none⟩) (Nat.le_refl _) _)
      clear HC HKi HDc HCv
      go_upto_if 76 with fail
      generalize (wc.setCell ⟨b, 5, none⟩ (.int .i64 (-1))) = w5 at *
      go_cut [1, 13] from 75 (fun x t wx => x = .string H ∧ ∃ td : Bool, t = .bool td ∧ td = (!D.data.toList.isEmpty) ∧ ∃ p, portV (ownV u.scheme) D.data.toList = some p ∧ Below b w wx ∧ AdrIn wx b { u with user := P1.data.toList, pass := P2.data.toList, port := p } pv)
      case first =>
       rcases hcc with ⟨hci, hD0, hHT⟩ | ⟨hlt3, hci, hDx, hHx⟩
       ·subst hci
        have HHT := hid hHT
        have HD0 := hid hD0
        clear hHT hD0
        go_wp2_with fail
        go_meet
        case rel => exact ⟨by rw [HHT.out], false, rfl, by rw [HD0.out]; rfl, -1, by rw [HD0.out]; rfl, HB5.out, H5.out⟩
       ·subst hci
        have HDx := hid hDx
        have HHx := hid hHx
        clear hDx hHx
        have hk0 : (0 : Int) ≤ (k2 : Int) := by omega
        have hk1 : (k2 : Int) ≤ (T.size : Int) := by omega
        have hk2' : (0 : Int) ≤ (k2 : Int) + 1 ∧ (k2 : Int) + 1 ≤ (T.size : Int) := by omega
        have hex1 : T.extract ((k2 : Int) + 1).toNat T.size = D := by rw [show ((k2 : Int) + 1).toNat = k2 + 1 by omega]; exact HDx.out
        have hex2 : T.extract (k2 + 1) T.size = D := HDx.out
        have hex3 : T.extract 0 k2 = H := HHx.out
        by_cases hD0 : D.data.toList = []
        ·have he := empty_yes D hD0
         have HD0 := hid hD0
         clear hD0
         go_wp2_with fail
         go_meet
         case rel => exact ⟨rfl, false, rfl, by rw [HD0.out]; rfl, -1, by rw [HD0.out]; rfl, HB5.out, H5.out⟩
        ·have he := empty_no D hD0
         have HD0 := hid hD0
         clear hD0
         have hivr := intV_range D.data.toList
         have HInt : Hid (∀ w : World, Calls Tryz.prog 97 #[.string D] w fun e w' => e = .returned (.tuple #[.int .i64 (intV D.data.toList), .bool (intOk D.data.toList)]) ∧ w = w') := fun w => rint_any D w (by omega)
         have HPb := hid (portB (own := ownV u.scheme) HD0.out)
         have HPg := hid (portG (own := ownV u.scheme) HD0.out)
         generalize hiv : intV D.data.toList = iv at hivr HInt HPb HPg
         generalize hio : intOk D.data.toList = io at HInt HPb HPg
         clear hiv hio
         have HTold := hid (show (!D.data.toList.isEmpty) = true by cases hl : D.data.toList with | nil => exact absurd hl HD0.out | cons _ _ => rfl)
         cases io with
         | false =>
          have HN := hid (HE1.out (HPb.out (.inl rfl)))
          go_wp2_with fail
          refine (HInt.out _).mono ?_
          rintro e w' ⟨rfl, rfl⟩
          go_wp2
          go_ret
          rw [HN.out]
          exact ⟨rfl, HB5.out, fun h => by cases h⟩
         | true =>
          by_cases hbig : 65535 < iv
          ·have HN := hid (HE1.out (HPb.out (.inr hbig)))
           go_wp2_with fail
           refine (HInt.out _).mono ?_
           rintro e w' ⟨rfl, rfl⟩
           go_wp2
           go_ret
           rw [HN.out]
           exact ⟨rfl, HB5.out, fun h => by cases h⟩
          ·have HPo := hid (HPg.out rfl (by omega))
           have hc5 := H5.out.cell 5 _ rfl
           have hf5 := H5.out.frozen 5
           have h6 : AdrIn (w5.setCell ⟨b, 5, none⟩ (.int .i64 iv)) b { u with user := P1.data.toList, pass := P2.data.toList, port := iv } pv := H5.out.set 5 _ rfl
           have HB6 := hid (show Below b w (w5.setCell ⟨b, 5, none⟩ (.int .i64 iv)) from HB5.out.setCell (p := ⟨b, 5, none⟩) (Nat.le_refl _) _)
           have hc60 : (w5.setCell ⟨b, 5, none⟩ (.int .i64 iv)).cell? ⟨b, 0, none⟩ = some (.string ⟨u.scheme.toArray⟩) := h6.cell 0 _ rfl
           have hc65 : (w5.setCell ⟨b, 5, none⟩ (.int .i64 iv)).cell? ⟨b, 5, none⟩ = some (.int .i64 iv) := h6.cell 5 _ rfl
           have H6 := hid h6
           clear h6
           go_upto_region 36 with (go_at_call 97; refine (HInt.out _).mono ?_; rintro e w' ⟨rfl, rfl⟩)
           generalize (w5.setCell ⟨b, 5, none⟩ (.int .i64 iv)) = w6 at *
           have hf65 := H6.out.frozen 5
           by_cases hown : iv = ownV u.scheme
           ·have ho : (iv == ownV u.scheme) = true := by rw [beq_iff_eq]; exact hown
            have HOw := hid hown
            clear hown
            go_region_with (go_at_call 178; refine (HOwn.out _).mono ?_; rintro e w' ⟨rfl, rfl⟩)
            all_goals
             go_wp2_with fail
             go_meet
             case rel =>
              refine ⟨rfl, true, rfl, HTold.out.symm, -1, by rw [HPo.out, if_pos HOw.out], ?_, ?_⟩
              ·first | exact HB6.out.drew.setCell (p := ⟨b, 5, none⟩) (Nat.le_refl _) _ | exact HB6.out.setCell (p := ⟨b, 5, none⟩) (Nat.le_refl _) _
              ·first | exact (show AdrIn w6.drew b { u with user := P1.data.toList, pass := P2.data.toList, port := iv } pv from H6.out).set 5 _ rfl | exact H6.out.set 5 _ rfl
           ·have ho : (iv == ownV u.scheme) = false := by rw [beq_eq_false_iff_ne]; exact hown
            have HOw := hid hown
            clear hown
            go_region_with (go_at_call 178; refine (HOwn.out _).mono ?_; rintro e w' ⟨rfl, rfl⟩)
            all_goals
             go_wp2_with fail
             go_meet
             case rel =>
              refine ⟨rfl, true, rfl, HTold.out.symm, iv, by rw [HPo.out, if_neg HOw.out], ?_, ?_⟩
              ·first | exact HB6.out.drew | exact HB6.out
              ·exact H6.out
      case rest =>
       obtain ⟨rfl, td, rfl, htd, p, hpo, hbx, hax⟩ := hcut
       have HTd := hid htd
       clear htd
       obtain ⟨HT, hHT⟩ : ∃ x : ByteArray, x = ⟨((parseV H.data.toList (specV u.scheme)).getD []).toArray⟩ := ⟨_, rfl⟩
       obtain ⟨ok, hok⟩ : ∃ x, x = (parseV H.data.toList (specV u.scheme)).isSome := ⟨_, rfl⟩
       have HPar : Hid (∀ w : World, Calls Tryz.prog 270 #[.string H, .bool (specV u.scheme)] w fun e w' => e = .returned (.tuple #[.string HT, .bool ok]) ∧ Below w.heap.size w w') := fun w => by
        have := rparse_any H (specV u.scheme) w (by omega)
        unfold Parse2Post at this
        rw [← hHT, ← hok] at this
        exact this
       have HPo := hid hpo
       have HHT := hid hHT
       have HOk := hid hok
       have hcx0 := hax.cell 0 _ rfl
       have HBx := hid hbx
       have Hx := hid hax
       clear hpo hHT hok hbx hax
       go_wp2_with fail
       refine (HSpec.out _).mono ?_
       rintro e w' ⟨rfl, rfl⟩
       go_wp2_with fail
       refine (HPar.out _).mono ?_
       rintro e w7 ⟨rfl, hb7⟩
       have H7 := hid (Hx.out.kept hb7)
       have HB7 := hid (HBx.out.trans (hb7.mono (Nat.le_of_lt Hx.out.lt)))
       have hc1 : w7.cell? ⟨b, 1, none⟩ = some (.string P1) := H7.out.cell 1 _ rfl
       have hc2 : w7.cell? ⟨b, 2, none⟩ = some (.string P2) := H7.out.cell 2 _ rfl
       clear hb7
       have hpar := HHT.out
       cases hpv : parseV H.data.toList (specV u.scheme) with
       | none =>
        have HN := hid (HE2.out p HPo.out hpv)
        have hok := HOk.out
        rw [hpv] at hok
        rw [show ok = false from hok]
        clear hpar hpv hok
        go_wp2
        go_ret
        rw [HN.out]
        exact ⟨rfl, HB7.out, fun h => by cases h⟩
       | some h =>
        have hok := HOk.out
        rw [hpv] at hok
        rw [show ok = true from hok]
        have hth : HT.data.toList = h := by rw [hpar, hpv]; rfl
        have hpv2 : parseV H.data.toList (specV u.scheme) = some HT.data.toList := by rw [hth]; exact hpv
        clear hpar hpv hok hth
        by_cases hh : HT.data.toList = []
        ·have q0 := empty_yes HT hh
         by_cases h1 : P1.data.toList = []
         ·have q1 := empty_yes P1 h1
          by_cases h2 : P2.data.toList = []
          ·have q2 := empty_yes P2 h2
           by_cases h3 : D.data.toList = []
           ·have q3 : (!D.data.toList.isEmpty) = false := by rw [h3]; rfl
            have HN := hid (HE4.out p _ HPo.out hpv2 (by rintro ⟨_, h4 | h4 | h4⟩; exact h4 h1; exact h4 h2; exact h4 h3))
            clear hpv2 hh h1 h2 h3
            rw [q3] at HTd
            obtain rfl : td = false := HTd.out
            have hc3 := H7.out.cell 3 _ rfl
            have hc4 := H7.out.cell 4 _ rfl
            have hf3 := H7.out.frozen 3
            have hf4 := H7.out.frozen 4
            go_wp2
            go_ret
            rw [HN.out]
            refine ⟨rfl, (HB7.out.setCell (p := ⟨b, 3, none⟩) (Nat.le_refl _) _).setCell (p := ⟨b, 4, none⟩) (Nat.le_refl _) _, fun _ => ?_⟩
            exact (H7.out.set (v := { u with user := P1.data.toList, pass := P2.data.toList, host := HT.data.toList, port := p }) 3 _ rfl).set 4 _ rfl
           ·have q3 : (!D.data.toList.isEmpty) = true := by cases hl : D.data.toList with | nil => exact absurd hl h3 | cons _ _ => rfl
            have HN := hid (HE3.out p _ HPo.out hpv2 ⟨hh, .inr (.inr h3)⟩)
            clear hpv2 hh h1 h2 h3
            rw [q3] at HTd
            obtain rfl : td = true := HTd.out
            go_wp2
            go_ret
            rw [HN.out]
            exact ⟨rfl, HB7.out, fun h => by cases h⟩
          ·have q2 := empty_no P2 h2
           have HN := hid (HE3.out p _ HPo.out hpv2 ⟨hh, .inr (.inl h2)⟩)
           clear hpv2 hh h1 h2
           go_wp2
           go_ret
           rw [HN.out]
           exact ⟨rfl, HB7.out, fun h => by cases h⟩
         ·have q1 := empty_no P1 h1
          have HN := hid (HE3.out p _ HPo.out hpv2 ⟨hh, .inl h1⟩)
          clear hpv2 hh h1
          go_wp2
          go_ret
          rw [HN.out]
          exact ⟨rfl, HB7.out, fun h => by cases h⟩
        ·have q0 := empty_no HT hh
         have HN := hid (HE4.out p _ HPo.out hpv2 (by rintro ⟨h4, _⟩; exact hh h4))
         clear hpv2 hh
         have hc3 := H7.out.cell 3 _ rfl
         have hc4 := H7.out.cell 4 _ rfl
         have hf3 := H7.out.frozen 3
         have hf4 := H7.out.frozen 4
         go_wp2
         go_ret
         rw [HN.out]
         refine ⟨rfl, (HB7.out.setCell (p := ⟨b, 3, none⟩) (Nat.le_refl _) _).setCell (p := ⟨b, 4, none⟩) (Nat.le_refl _) _, fun _ => ?_⟩
         exact (H7.out.set (v := { u with user := P1.data.toList, pass := P2.data.toList, host := HT.data.toList, port := p }) 3 _ rfl).set 4 _ rfl

end Go.Proofs.YtgoefeaopegdoaaGreatDoor
